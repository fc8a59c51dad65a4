/-
  The document's tier: which node is a cache, ELAPSED, ages, where an entry or a fetch of a key stands, how many wait.
  The document's tier: the age of an entry, whether one is fresh, how many wait, an item of the origin.
  The document's tier: an entry is used.
  The document's tier: one is refused.
  The document's tier: one is told by the entry of a key.
-/
import Derived.Test.YtpdkojgepagbnaaGreatDoorJ30
import Derived.Test.YtpdkojgepagbnaaGreatDoorJ05
import Derived.Test.YtpdkojgepagbnaaGreatDoorJ10
import Derived.Test.YtpdkojgepagbnaaGreatDoorJ07
import Derived.Test.YtpdkojgepagbnaaGreatDoorJ08
namespace Go.Proofs.YtpdkojgepagbnaaGreatDoor
set_option maxRecDepth 100000
set_option maxHeartbeats 8000000
section
open Go.RowKit
open Tier (Mes Ans Conf St Kept Wtr Ftc Cac)
attribute [local go_sem ↓] Go.wp_at_zero Go.wp_at_succ
variable {own:Own} {τ:Nat} {w:World} {br:Nat} {g:RGh} {t:St}
def idxFrom {α:Type} (f:α→ByteArray) (k:ByteArray):Nat→List α→Int
  | _,[]=>-1
  | i,x :: r=>if f x=k then (i:Int) else idxFrom f k (i+1) r
def idx {α:Type} (f:α→ByteArray) (k:ByteArray) (l:List α):Int:=idxFrom f k 0 l
theorem idxFrom_spec {α:Type} (f:α→ByteArray) (k:ByteArray):∀ (l:List α) (j:Nat),(∃ (i:Nat) (x:α),idxFrom f k j l=((j+i:Nat):Int)∧l[i]?=some x∧f x=k∧l.find? (fun e=>decide (f e=k))=some x)∨(idxFrom f k j l=-1∧l.find? (fun e=>decide (f e=k))=none)
  | [],_=>Or.inr ⟨rfl,rfl⟩
  | x :: r,j=>by
    unfold idxFrom
    by_cases e:f x=k
    ·rw [if_pos e,List.find?_cons_of_pos (by simpa using e)]
     exact Or.inl ⟨0,x,rfl,rfl,e,rfl⟩
    ·rw [if_neg e,List.find?_cons_of_neg (by simpa using e)]
     rcases idxFrom_spec f k r (j+1) with ⟨i,y,h1,h2,h3,h4⟩|h
     ·exact Or.inl ⟨i+1,y,by rw [h1];congr 1;omega,by simpa using h2,h3,h4⟩
     ·exact Or.inr h
theorem idx_spec {α:Type} (f:α→ByteArray) (k:ByteArray) (l:List α):(∃ (i:Nat) (x:α),idx f k l=(i:Int)∧l[i]?=some x∧f x=k∧l.find? (fun e=>decide (f e=k))=some x)∨(idx f k l=-1∧l.find? (fun e=>decide (f e=k))=none):=by
  rcases idxFrom_spec f k l 0 with ⟨i,x,h1,h2⟩|h
  ·exact Or.inl ⟨i,x,by rw [Nat.zero_add] at h1;exact h1,h2⟩
  ·exact Or.inr h
theorem idxFrom_hit {α:Type} (f:α→ByteArray) (k:ByteArray) {l:List α} {j:Nat} {x:α} (h:l[j]?=some x) (e:f x=k):idxFrom f k j (l.drop j)=(j:Int):=by
  obtain ⟨hlt,hx⟩:=List.getElem?_eq_some_iff.1 h
  rw [List.drop_eq_getElem_cons hlt,hx]
  unfold idxFrom
  rw [if_pos e]
theorem idxFrom_miss {α:Type} (f:α→ByteArray) (k:ByteArray) {l:List α} {j:Nat} {x:α} (h:l[j]?=some x) (e:¬ f x=k):idxFrom f k j (l.drop j)=idxFrom f k (j+1) (l.drop (j+1)):=by
  obtain ⟨hlt,hx⟩:=List.getElem?_eq_some_iff.1 h
  rw [List.drop_eq_getElem_cons hlt,hx]
  conv=>lhs;unfold idxFrom
  rw [if_neg e]
theorem rcache_any (h:RLies own τ w br g t) (n:Int):Calls Tryz.prog 67 #[.pointer (some ⟨br,0,none⟩),.int .i64 n] w fun e w'=>e= .returned (.bool (decide (1≤n) && decide (n<(t.caches.length:Int))))∧w'=w:=by
  have d6:w.cell? ⟨br,6,none⟩=some (.slice (some ⟨g.bc,0,none⟩) t.caches.length t.caches.length):=cOf h.block 6
  clear h
  generalize t.caches.length=m at *
  by_cases h1:1≤n
  ·by_cases h2:n<(m:Int)
   ·go_enter Tryz.func67,Tryz.ntmps67
    go_wp2
    go_ret
    exact ⟨by simp [h1,h2],rfl⟩
   ·go_enter Tryz.func67,Tryz.ntmps67
    go_wp2
    go_ret
    exact ⟨by simp [h2],rfl⟩
  ·go_enter Tryz.func67,Tryz.ntmps67
   go_wp2
   go_ret
   exact ⟨by rw [decide_eq_false (show ¬ 1≤n by omega)];rfl,rfl⟩
theorem elap_same (drift d:Int):Tier.elapsed drift d=elap drift d:=by
  unfold Tier.elapsed elap
  rw [Int.mul_comm]
theorem ceil_up {n k:Int} (hk:0<k) (h0:0≤n) (h:n.tdiv k*k<n):(n+k - 1) / k=n.tdiv k+1:=by
  rw [Int.tdiv_eq_ediv_of_nonneg h0] at h ⊢
  have h1:=Int.mul_ediv_add_emod n k
  have h2:=Int.emod_lt_of_pos n hk
  have h3:=Int.mul_comm (n / k) k
  rw [show n+k - 1=(n % k - 1)+(n / k+1)*k by rw [Int.add_mul];omega,Int.add_mul_ediv_right _ _ (by omega),Int.ediv_eq_zero_of_lt (by omega) (by omega)]
  omega
theorem ceil_even {n k:Int} (hk:0<k) (h0:0≤n) (h:¬ n.tdiv k*k<n):(n+k - 1) / k=n.tdiv k:=by
  rw [Int.tdiv_eq_ediv_of_nonneg h0] at h ⊢
  have h1:=Int.mul_ediv_add_emod n k
  have h2:=Int.emod_nonneg n (show k≠0 by omega)
  have h3:=Int.mul_comm (n / k) k
  rw [show n+k - 1=(k - 1)+(n / k)*k by omega,Int.add_mul_ediv_right _ _ (by omega),Int.ediv_eq_zero_of_lt (by omega) (by omega)]
  omega
theorem relapsed_any (h:RLies own τ w br g t) (hd:0≤t.c.drift∧t.c.drift≤500000) (d:Int) (h0:0≤d) (h1:d≤1099511627776):Calls Tryz.prog 99 #[.pointer (some ⟨br,0,none⟩),.int .i64 d] w fun e w'=>e= .returned (.int .i64 (Tier.elapsed t.c.drift d))∧w'=w:=by
  have d1:w.cell? ⟨br,1,none⟩=some (.int .i64 t.c.drift):=cOf h.block 1
  clear h
  have HU:=hide (ceil_up (n:=1000000*d) (k:=1000000 - t.c.drift) (by omega) (by omega))
  have HE:=hide (ceil_even (n:=1000000*d) (k:=1000000 - t.c.drift) (by omega) (by omega))
  have hle:=elap_le (drift:=t.c.drift) (d:=d) h0 h1 hd.1 hd.2
  rw [← elap_same] at hle
  unfold Tier.elapsed at *
  generalize t.c.drift=dr at *
  have w1:IntKind.i64.wrap (1000000*d)=1000000*d:=by rw [IntKind.wrap_i64];omega
  have w2:IntKind.i64.wrap (1000000 - dr)=1000000 - dr:=by rw [IntKind.wrap_i64];omega
  have hz:((1000000 - dr) == 0)=false:=by simp;omega
  have hz2:1000000 - dr≠0:=by omega
  have hq0:0≤(1000000*d).tdiv (1000000 - dr):=Int.tdiv_nonneg (by omega) (by omega)
  have hq1:(1000000*d).tdiv (1000000 - dr)≤1000000*d:=by rw [Int.tdiv_eq_ediv_of_nonneg (by omega)];exact Int.ediv_le_self _ (by omega)
  have hqk:0≤(1000000*d).tdiv (1000000 - dr)*(1000000 - dr)∧(1000000*d).tdiv (1000000 - dr)*(1000000 - dr)≤1000000*d:=by
    refine ⟨Int.mul_nonneg hq0 (by omega),?_⟩
    rw [Int.tdiv_eq_ediv_of_nonneg (by omega)]
    exact Int.ediv_mul_le _ hz2
  have w3:IntKind.i64.wrap ((1000000*d).tdiv (1000000 - dr))=(1000000*d).tdiv (1000000 - dr):=by rw [IntKind.wrap_i64];omega
  have w4:IntKind.i64.wrap ((1000000*d).tdiv (1000000 - dr)*(1000000 - dr))=(1000000*d).tdiv (1000000 - dr)*(1000000 - dr):=by rw [IntKind.wrap_i64];omega
  have w5:IntKind.i64.wrap ((1000000*d).tdiv (1000000 - dr)+1)=(1000000*d).tdiv (1000000 - dr)+1:=by rw [IntKind.wrap_i64];omega
  by_cases hc:(1000000*d).tdiv (1000000 - dr)*(1000000 - dr)<1000000*d
  ·have HR:=hide (uH HU hc)
   clear HU HE hq0 hq1 hqk h0 h1 hd hle
   go_enter Tryz.func99,Tryz.ntmps99
   go_wp2
   go_ret
   exact ⟨by rw [uH HR];rfl,rfl⟩
  ·have HR:=hide (uH HE hc)
   clear HU HE hq0 hq1 hqk h0 h1 hd hle
   go_enter Tryz.func99,Tryz.ntmps99
   go_wp2
   go_ret
   exact ⟨by rw [uH HR];rfl,rfl⟩
theorem rentry_any (h:RLies own τ w br g t) {n:Nat} (hn:n<t.caches.length) (hl:(t.cac n).ents.length≤1000000) (k:ByteArray):Calls Tryz.prog 109 #[.pointer (some ⟨br,0,none⟩),.int .i64 (n:Int),.string k] w fun e w'=>e= .returned (.int .i64 (idx Kept.key k (t.cac n).ents))∧w'=w:=by
  obtain ⟨va,vc,hv⟩:=rowForm (h.ents n hn)
  have d6:w.cell? ⟨br,6,none⟩=some (.slice (some ⟨g.bc,0,none⟩) t.caches.length t.caches.length):=cOf h.block 6
  obtain ⟨_,k1,_,_⟩:=h.cacs.at_ hn
  rw [hv] at k1
  have HA:Hid (∀ j e,(t.cac n).ents[j]?=some e→∃ b,va=some ⟨b,0,none⟩∧w.cell? ⟨b,j*6,none⟩=some (.string e.key)):=fun j e hj=>by
    obtain ⟨b,c',e',_,_,hc,_⟩:=rowAt (h.ents n hn) (fun _=>rfl) hj
    rw [hv] at e'
    cases e'
    exact ⟨b,rfl,hc 0 (by omega)⟩
  clear h hv
  have i0:(0:Int)≤(n:Int):=by omega
  have i1:(n:Int)<(t.caches.length:Int):=by omega
  generalize t.caches.length=m at *
  generalize (t.cac n).ents=l at *
  have HL:=hide hl
  generalize hN:l.length=N at *
  generalize hR:idx Kept.key k l=R
  have HR0:Hid (idxFrom Kept.key k 0 (l.drop 0)=R):=hR
  clear hR hl hn
  go_enter Tryz.func109,Tryz.ntmps109
  go_wp2
  go_loopw [8] (fun i wr=>∃ j:Nat,j≤N∧i= .int .i64 (j:Int)∧wr=w∧Hid (idxFrom Kept.key k j (l.drop j)=R)) (fun i _=>N - (intOf i).toNat)
  case atStart=>exact ⟨0,Nat.zero_le _,rfl,rfl,HR0⟩
  case round =>
    clear HR0
    obtain ⟨j,jN,rfl,rfl,HR⟩:=hrel
    have hjw:IntKind.i64.wrap ((j:Int)+1)=(j:Int)+1:=by rw [IntKind.wrap_i64];have:=uH HL;omega
    by_cases hlt:j<N
    ·obtain ⟨x,hx⟩:∃ x,l[j]?=some x:=⟨_,List.getElem?_eq_getElem (by omega)⟩
     obtain ⟨b,rfl,c0⟩:=uH HA j x hx
     have j0:(0:Int)≤(j:Int):=by omega
     have j1:(j:Int)<(N:Int):=by omega
     by_cases hk:x.key=k
     ·have hkb:(x.key.toList == k.toList)=true:=by rw [bytes_same];exact decide_eq_true hk
      have e:R=(j:Int):=by rw [← uH HR,idxFrom_hit Kept.key k hx hk]
      subst e
      clear HR hk
      go_wp2
      go_ret
      exact ⟨rfl,rfl⟩
     ·have hkb:(x.key.toList == k.toList)=false:=by rw [bytes_same];exact decide_eq_false hk
      have HR':Hid (idxFrom Kept.key k (j+1) (l.drop (j+1))=R):=by show _=_;rw [← uH HR,idxFrom_miss Kept.key k hx hk]
      clear HR hk
      go_wp2
      go_roundw
      case rel=>exact ⟨j+1,by omega,by go_num,trivial,HR'⟩
      case measure=>simp [intOf];omega
    ·have j1:¬ (j:Int)<(N:Int):=by omega
     have e:R=-1:=by rw [← uH HR,List.drop_of_length_le (by omega)];rfl
     subst e
     clear HR
     go_wp2
     go_ret
     exact ⟨rfl,rfl⟩
theorem rfetch_any (h:RLies own τ w br g t) {n:Nat} (hn:n<t.caches.length) (hl:(t.cac n).fts.length≤1000000) (k:ByteArray):Calls Tryz.prog 85 #[.pointer (some ⟨br,0,none⟩),.int .i64 (n:Int),.string k] w fun e w'=>e= .returned (.int .i64 (idx Ftc.key k (t.cac n).fts))∧w'=w:=by
  obtain ⟨va,vc,hv⟩:=rowForm (h.fts n hn)
  have d6:w.cell? ⟨br,6,none⟩=some (.slice (some ⟨g.bc,0,none⟩) t.caches.length t.caches.length):=cOf h.block 6
  obtain ⟨_,_,k1,_⟩:=h.cacs.at_ hn
  rw [hv] at k1
  have HA:Hid (∀ j e,(t.cac n).fts[j]?=some e→∃ b,va=some ⟨b,0,none⟩∧w.cell? ⟨b,j*4,none⟩=some (.string e.key)):=fun j e hj=>by
    obtain ⟨b,c',e',_,_,hc,_⟩:=rowAt (h.fts n hn) (fun _=>rfl) hj
    rw [hv] at e'
    cases e'
    exact ⟨b,rfl,hc 0 (by omega)⟩
  clear h hv
  have i0:(0:Int)≤(n:Int):=by omega
  have i1:(n:Int)<(t.caches.length:Int):=by omega
  generalize t.caches.length=m at *
  generalize (t.cac n).fts=l at *
  have HL:=hide hl
  generalize hN:l.length=N at *
  generalize hR:idx Ftc.key k l=R
  have HR0:Hid (idxFrom Ftc.key k 0 (l.drop 0)=R):=hR
  clear hR hl hn
  go_enter Tryz.func85,Tryz.ntmps85
  go_wp2
  go_loopw [8] (fun i wr=>∃ j:Nat,j≤N∧i= .int .i64 (j:Int)∧wr=w∧Hid (idxFrom Ftc.key k j (l.drop j)=R)) (fun i _=>N - (intOf i).toNat)
  case atStart=>exact ⟨0,Nat.zero_le _,rfl,rfl,HR0⟩
  case round =>
    clear HR0
    obtain ⟨j,jN,rfl,rfl,HR⟩:=hrel
    have hjw:IntKind.i64.wrap ((j:Int)+1)=(j:Int)+1:=by rw [IntKind.wrap_i64];have:=uH HL;omega
    by_cases hlt:j<N
    ·obtain ⟨x,hx⟩:∃ x,l[j]?=some x:=⟨_,List.getElem?_eq_getElem (by omega)⟩
     obtain ⟨b,rfl,c0⟩:=uH HA j x hx
     have j0:(0:Int)≤(j:Int):=by omega
     have j1:(j:Int)<(N:Int):=by omega
     by_cases hk:x.key=k
     ·have hkb:(x.key.toList == k.toList)=true:=by rw [bytes_same];exact decide_eq_true hk
      have e:R=(j:Int):=by rw [← uH HR,idxFrom_hit Ftc.key k hx hk]
      subst e
      clear HR hk
      go_wp2
      go_ret
      exact ⟨rfl,rfl⟩
     ·have hkb:(x.key.toList == k.toList)=false:=by rw [bytes_same];exact decide_eq_false hk
      have HR':Hid (idxFrom Ftc.key k (j+1) (l.drop (j+1))=R):=by show _=_;rw [← uH HR,idxFrom_miss Ftc.key k hx hk]
      clear HR hk
      go_wp2
      go_roundw
      case rel=>exact ⟨j+1,by omega,by go_num,trivial,HR'⟩
      case measure=>simp [intOf];omega
    ·have j1:¬ (j:Int)<(N:Int):=by omega
     have e:R=-1:=by rw [← uH HR,List.drop_of_length_le (by omega)];rfl
     subst e
     clear HR
     go_wp2
     go_ret
     exact ⟨rfl,rfl⟩
def keptV (e:Kept):Value:= .agg (keptL e).toArray
def wtrV (x:Wtr):Value:= .agg (wtrL x).toArray
def itemV (x:Tier.Item):Value:= .agg (itemL x).toArray
structure KFine (t:St) (n:Nat) (e:Kept):Prop where
  b:0≤e.base∧e.base≤4398046511104
  s:0≤e.since∧e.since≤(t.cac n).clock
  c:(t.cac n).clock≤1099511627776
  d:0≤t.c.drift∧t.c.drift≤500000
theorem KFine.age {n:Nat} {e:Kept} (k:KFine t n e):0≤t.age n e∧t.age n e≤6597069766658:=by
  have:=elap_le (drift:=t.c.drift) (d:=(t.cac n).clock - e.since) (by have:=k.s;omega) (by have:=k.s;have:=k.c;omega) k.d.1 k.d.2
  unfold Tier.St.age
  rw [elap_same]
  have:=k.b
  omega
theorem rage_any (h:RLies own τ w br g t) {n:Nat} (hn:n<t.caches.length) (e:Kept) (he:KFine t n e):Calls Tryz.prog 68 #[.pointer (some ⟨br,0,none⟩),.int .i64 (n:Int),keptV e] w fun r w'=>r= .returned (.int .i64 (t.age n e))∧Turn nO w w':=by
  have hage:=he.age
  obtain ⟨b,s,c,d⟩:=he
  have HH:=hide h
  have KE:=hide (fun (w':World) (T:Turn nO w w')=>relapsed_any ((uH HH).turn T) d ((t.cac n).clock - e.since) (by omega) (by omega))
  have d6:w.cell? ⟨br,6,none⟩=some (.slice (some ⟨g.bc,0,none⟩) t.caches.length t.caches.length):=cOf h.block 6
  obtain ⟨k0,_,_,_⟩:=h.cacs.at_ hn
  have i0:(0:Int)≤(n:Int):=by omega
  have i1:(n:Int)<(t.caches.length:Int):=by omega
  have hw1:IntKind.i64.wrap ((t.cac n).clock - e.since)=(t.cac n).clock - e.since:=by rw [IntKind.wrap_i64];omega
  have hw2:IntKind.i64.wrap (e.base+Tier.elapsed t.c.drift ((t.cac n).clock - e.since))=e.base+Tier.elapsed t.c.drift ((t.cac n).clock - e.since):=by
    unfold Tier.St.age at hage
    rw [IntKind.wrap_i64];omega
  unfold Tier.St.age
  have hbr:=h.lt
  clear h b s c d hage hn
  generalize t.caches.length=m at *
  generalize (t.cac n).clock=ck at *
  obtain ⟨key,ver,pres,val,base,since⟩:=e
  unfold keptV keptL
  dsimp only at *
  generalize Tier.elapsed t.c.drift (ck - since)=x at *
  go_enter Tryz.func68,Tryz.ntmps68
  go_wp2
  generalize hW:World.alloc _ _=W0
  have T0:Turn nO w W0:=by rw [← hW];exact (Turn.alloc _ _ _)
  have hsz:W0.heap.size=w.heap.size+1:=by rw [← hW];simp
  have x0:∃ ty,W0.heap[w.heap.size]?=some (.cells #[.string key,.int .i64 ver,.int .i64 pres,.string val,.int .i64 base,.int .i64 since] ty (0,0)):=by rw [← hW];exact ⟨_,new1_0 _ _⟩
  obtain ⟨x0_0,x0_1,x0_2,x0_3,x0_4,x0_5⟩:=eC6 x0
  have c6:=T0.cell d6 id
  have ck0:=T0.cell k0 id
  clear hW d6 k0
  have HS:=fun w' (T:Turn nO W0 w')=>And.intro T (And.intro (T.cell c6 id) (And.intro (T.cell ck0 id) (And.intro (T.cell x0_0 id) (And.intro (T.cell x0_1 id) (And.intro (T.cell x0_2 id) (And.intro (T.cell x0_3 id) (And.intro (T.cell x0_4 id) (T.cell x0_5 id))))))))
  go_region_held3 (fun w'=>Turn nO W0 w'∧w'.cell? ⟨br,6,none⟩=some (.slice (some ⟨g.bc,0,none⟩) m m)∧w'.cell? ⟨g.bc,n*3,none⟩=some (.int .i64 ck)∧w'.cell? ⟨w.heap.size,0,none⟩=some (.string key)∧w'.cell? ⟨w.heap.size,1,none⟩=some (.int .i64 ver)∧w'.cell? ⟨w.heap.size,2,none⟩=some (.int .i64 pres)∧w'.cell? ⟨w.heap.size,3,none⟩=some (.string val)∧w'.cell? ⟨w.heap.size,4,none⟩=some (.int .i64 base)∧w'.cell? ⟨w.heap.size,5,none⟩=some (.int .i64 since)) ((go_split_ands;apply HS;all_goals (repeat (first|(with_reducible first|assumption|exact Turn.refl _ _|apply Turn.sA|apply Turn.sD|refine tN ?_ (by assumption))|((with_reducible refine Turn.sS ?_ ?_);rotate_left;· first|exact Or.inr rfl|exact Or.inr (Or.inl rfl)|exact Or.inl (by simp <;> omega))|(with_reducible refine tG ?_ (by assumption))|(with_reducible first|apply There.drew|apply There.set|refine hNo ?_ (by assumption))|assumption)))) (first|(go_at_call 99;go_split_ands;refine (uH KE _ (T0.sT (by assumption) (fun _ _ h=>h))).mono ?_;rintro e w' ⟨rfl,rfl⟩))
  all_goals go_wp2
  all_goals go_ret
  all_goals exact ⟨rfl,T0.sT (by (repeat (first|(with_reducible first|assumption|exact Turn.refl _ _|apply Turn.sA|apply Turn.sD|refine tN ?_ (by assumption))|((with_reducible refine Turn.sS ?_ ?_);rotate_left;· first|exact Or.inr rfl|exact Or.inr (Or.inl rfl)|exact Or.inl (by simp <;> omega))|(with_reducible refine tG ?_ (by assumption))|(with_reducible first|apply There.drew|apply There.set|refine hNo ?_ (by assumption))|assumption))) (fun _ _ h=>h)⟩
theorem sum_take (l:List Ftc) (j:Nat) (x:Ftc) (h:l[j]?=some x):((l.take (j+1)).map fun f=>f.l.length).sum=((l.take j).map fun f=>f.l.length).sum+x.l.length:=by
  rw [List.take_add_one,h]
  simp
theorem rwaiting_any (h:RLies own τ w br g t) {n:Nat} (hn:n<t.caches.length) (hl:(t.cac n).fts.length≤1000000) (hw:∀ f∈(t.cac n).fts,f.l.length≤1000000):Calls Tryz.prog 108 #[.pointer (some ⟨br,0,none⟩),.int .i64 (n:Int)] w fun e w'=>e= .returned (.int .i64 (t.waiting n:Int))∧w'=w:=by
  obtain ⟨va,vc,hv⟩:=rowForm (h.fts n hn)
  have d6:w.cell? ⟨br,6,none⟩=some (.slice (some ⟨g.bc,0,none⟩) t.caches.length t.caches.length):=cOf h.block 6
  obtain ⟨_,_,k1,_⟩:=h.cacs.at_ hn
  rw [hv] at k1
  have HA:Hid (∀ j e,(t.cac n).fts[j]?=some e→∃ b a c,va=some ⟨b,0,none⟩∧w.cell? ⟨b,j*4+3,none⟩=some (.slice a e.l.length c)):=fun j e hj=>by
    obtain ⟨b,c',e',_,_,hc,_⟩:=rowAt (h.fts n hn) (fun _=>rfl) hj
    rw [hv] at e'
    cases e'
    obtain ⟨a,c,hv2⟩:=rowForm (h.waits n hn e (List.mem_of_getElem? hj))
    exact ⟨b,a,c,rfl,by rw [hc 3 (by omega)];show some (g.lv e.serial)=_;rw [hv2]⟩
  clear h hv
  have i0:(0:Int)≤(n:Int):=by omega
  have i1:(n:Int)<(t.caches.length:Int):=by omega
  generalize t.caches.length=m at *
  unfold Tier.St.waiting
  generalize (t.cac n).fts=l at *
  have HL:=hide hl
  have HW:=hide hw
  have hsum:∀ j,j≤l.length→((l.take j).map fun f=>f.l.length).sum≤1000000*j:=by
    intro j
    induction j with
    | zero=>intro _;simp
    | succ j ih =>
      intro hj
      obtain ⟨x,hx⟩:∃ x,l[j]?=some x:=⟨_,List.getElem?_eq_getElem (by omega)⟩
      rw [sum_take l j x hx]
      have:=ih (by omega)
      have:=hw x (List.mem_of_getElem? hx)
      omega
  have HSM:=hide hsum
  generalize hN:l.length=N at *
  clear hl hn hw hsum
  go_enter Tryz.func108,Tryz.ntmps108
  go_wp2
  go_loopw [5,7] (fun s i wr=>∃ j:Nat,j≤N∧i= .int .i64 (j:Int)∧s= .int .i64 ((((l.take j).map fun f=>f.l.length).sum:Nat):Int)∧wr=w) (fun _ i _=>N - (intOf i).toNat)
  case atStart=>exact ⟨0,Nat.zero_le _,rfl,rfl,rfl⟩
  case round =>
    obtain ⟨j,jN,rfl,rfl,rfl⟩:=hrel
    have hjw:IntKind.i64.wrap ((j:Int)+1)=(j:Int)+1:=by rw [IntKind.wrap_i64];have:=uH HL;omega
    by_cases hlt:j<N
    ·obtain ⟨x,hx⟩:∃ x,l[j]?=some x:=⟨_,List.getElem?_eq_getElem (by omega)⟩
     obtain ⟨b,a,c,rfl,c0⟩:=uH HA j x hx
     have j0:(0:Int)≤(j:Int):=by omega
     have j1:(j:Int)<(N:Int):=by omega
     have hst:=sum_take l j x hx
     have HST:=hide hst
     have h1:=uH HSM j (by omega)
     have h2:=uH HW x (List.mem_of_getElem? hx)
     have h3:=uH HL
     generalize ((l.take j).map fun f=>f.l.length).sum=sm at *
     generalize x.l.length=xl at *
     have hsw:IntKind.i64.wrap ((sm:Int)+(xl:Int))=(sm:Int)+(xl:Int):=by rw [IntKind.wrap_i64];omega
     clear hst hx h1 h2 h3
     go_wp2
     go_roundw
     case rel=>exact ⟨j+1,by omega,by go_num,by rw [uH HST];go_num,trivial⟩
     case measure=>simp [intOf];omega
    ·have j1:¬ (j:Int)<(N:Int):=by omega
     obtain rfl:j=N:=by omega
     rw [← hN,List.take_length]
     go_wp2
     go_ret
     exact ⟨rfl,rfl⟩
theorem rfresh_any (h:RLies own τ w br g t) {n:Nat} (hn:n<t.caches.length) (hl:(t.cac n).ents.length≤1000000) (hf:∀ e∈(t.cac n).ents,KFine t n e) (k:ByteArray):Calls Tryz.prog 106 #[.pointer (some ⟨br,0,none⟩),.int .i64 (n:Int),.string k] w fun e w'=>e= .returned (.bool (t.fresh n k))∧Turn nO w w':=by
  have KI:=hide (fun (w':World) (h':RLies own τ w' br g t)=>rentry_any h' hn hl k)
  have HH:=hide h
  unfold Tier.St.fresh Tier.St.entry
  rcases idx_spec Kept.key k (t.cac n).ents with ⟨i,x,h1,h2,h3,h4⟩|⟨h1,h2⟩
  ·rw [h4]
   rw [h1] at KI
   have KA:=hide (fun (w':World) (T:Turn nO w w')=>rage_any ((uH HH).turn T) hn x (hf x (List.mem_of_getElem? h2)))
   obtain ⟨eb,ec,hv,_,_,hc,_⟩:=rowAt (h.ents n hn) (fun _=>rfl) h2
   have d6:w.cell? ⟨br,6,none⟩=some (.slice (some ⟨g.bc,0,none⟩) t.caches.length t.caches.length):=cOf h.block 6
   have d2:w.cell? ⟨br,2,none⟩=some (.int .i64 t.c.budget):=cOf h.block 2
   obtain ⟨_,k1,_,_⟩:=h.cacs.at_ hn
   rw [hv] at k1
   have hlt:i<(t.cac n).ents.length:=(List.getElem?_eq_some_iff.1 h2).1
   obtain ⟨c0,c1,c2,c3,c4,c5⟩:=rC6 hc
   have i0:(0:Int)≤(n:Int):=by omega
   have i1:(n:Int)<(t.caches.length:Int):=by omega
   have j0:(0:Int)≤(i:Int):=by omega
   have j1:(i:Int)<((t.cac n).ents.length:Int):=by omega
   dsimp only
   unfold keptV keptL at KA
   generalize t.age n x=ag at *
   generalize (t.cac n).ents.length=el at *
   generalize t.caches.length=m at *
   generalize t.c.budget=bud at *
   clear h hc hv hf hl h1 h2 h3 h4 hn hlt
   obtain ⟨key,ver,pres,val,base,since⟩:=x
   dsimp only at *
   go_enter Tryz.func106,Tryz.ntmps106
   go_wp2_with fail
   refine (uH KI w (uH HH)).mono ?_
   rintro e w1 ⟨rfl,rfl⟩
   clear KI
   go_wp2_with fail
   refine (uH KA _ (Turn.refl _ _)).mono ?_
   rintro e w2 ⟨rfl,T2⟩
   have e2:=T2.cell d2 id
   clear d6 d2 k1 c0 c1 c2 c3 c4 c5 KA
   go_wp2
   go_ret
   exact ⟨rfl,T2⟩
  ·rw [h2]
   rw [h1] at KI
   clear h hf hl h1 h2 hn
   go_enter Tryz.func106,Tryz.ntmps106
   go_wp2_with fail
   refine (uH KI w (uH HH)).mono ?_
   rintro e w1 ⟨rfl,rfl⟩
   clear KI
   go_wp2
   go_ret
   exact ⟨rfl,Turn.refl _ _⟩
end
section
open Go.RowKit
open Tier (Mes Ans Conf St Kept Wtr Ftc Cac)
attribute [local go_sem ↓] Go.wp_at_zero Go.wp_at_succ
variable {own own':Own} {τ:Nat} {w w1 w2 w':World} {br:Nat} {g g':RGh} {t t':St}
theorem turn_drewN (M:Nat→Prop) (w:World) (n:Nat):Turn M w (w.drewN n):=⟨rfl,rfl,rfl,Nat.le_refl _,fun _ _ _=>rfl⟩
structure RLeaves (own:Own) (τ:Nat) (w:World) (br:Nat) (t:St) (w':World):Prop where
  is:∃ own' g',RLies own' τ w' br g' t∧Step τ own own' w w'
def putV (own:Own) (v:Value) (x:Nat × Nat):Own:=fun k=>if v.ownBlock=some k then some x else own k
theorem row_fresh {x e size base:Nat} {v:Value} {l:List (List Value)} (hO:w1.ownsRow base e size v l.length l.flatten) (h2:∀ k,v.ownBlock=some k→w2.heap[k]?=w1.heap[k]?):Row (putV own v (τ,x)) τ x w2 e size v l:=by
  obtain ⟨hl,hv⟩:=hO
  refine ⟨⟨hl,?_⟩,fun k hk=>by unfold putV;rw [if_pos hk]⟩
  rcases hv with hv|⟨gb,cap,cur,hv,_,hg,r⟩
  ·exact Or.inl hv
  ·exact Or.inr ⟨gb,cap,cur,hv,Nat.zero_le _,(h2 gb (by rw [hv];rfl)).trans hg,r⟩
theorem putV_old {v:Value} {x:Nat × Nat} {e size base n:Nat} {xs:List Value} (hO:w1.ownsRow base e size v n xs) {k:Nat} (hk:k<base):putV own v x k=own k:=by
  unfold putV
  rw [if_neg]
  intro he
  have:=(hO.lt k he).1
  omega
theorem putV_top {v:Value} {x:Nat × Nat} {e size base n:Nat} {xs:List Value} (hO:w1.ownsRow base e size v n xs) (hs:w1.heap.size=w2.heap.size) (ht:∀ k,w.heap.size≤k→own k=none) (hw:w.heap.size≤w1.heap.size):∀ k,w2.heap.size≤k→putV own v x k=none:=fun k hk=>by
  unfold putV
  rw [if_neg]
  ·exact ht k (by omega)
  ·intro he
   have:=(hO.lt k he).2
   omega
structure Grow (w0 w:World) (e size:Nat) (v:Value) (l:List (List Value)):Prop where
  turn:Turn nO w0 w
  row:w.ownsRow w0.heap.size e size v l.length l.flatten
theorem owns_turnB {e size base n:Nat} {v:Value} {xs:List Value} (h:w.ownsRow base e size v n xs) (T:Turn nO w w'):w'.ownsRow base e size v n xs:=by
  have hlt:=h.lt
  obtain ⟨hl,hv⟩:=h
  refine ⟨hl,?_⟩
  rcases hv with hv|⟨gb,cap,cur,rfl,hb,hg,r⟩
  ·exact Or.inl hv
  ·exact Or.inr ⟨gb,cap,cur,rfl,hb,(T.block gb (hlt gb rfl).2 id).trans hg,r⟩
theorem Grow.more {w0:World} {e size:Nat} {v:Value} {l:List (List Value)} (h:Grow w0 w e size v l) (T:Turn nO w w'):Grow w0 w' e size v l:=⟨h.turn.sT T (fun _ _ h=>h),owns_turnB h.row T⟩
theorem Grow.low {w0 wA:World} {e size:Nat} {v:Value} {l:List (List Value)} (h:Grow wA w e size v l) (T:Turn nO w0 wA):Grow w0 w e size v l:=by
  refine ⟨T.sT h.turn (fun _ _ h=>h),?_⟩
  obtain ⟨hl,hv⟩:=h.row
  refine ⟨hl,?_⟩
  rcases hv with hv|⟨gb,cap,cur,hv,hb,r⟩
  ·exact Or.inl hv
  ·exact Or.inr ⟨gb,cap,cur,hv,Nat.le_trans T.size hb,r⟩
theorem Grow.nil (w:World) (e size:Nat):Grow w w e size (.slice none 0 0) []:=⟨Turn.refl _ _,World.ownsRow_nil _ _ _ _⟩
theorem Grow.one {e size:Nat} {r:List Value} (hs:r.length=size):Grow w (w.alloc (.cells r.toArray e (0,0))) e size (.slice (some ⟨w.heap.size,0,none⟩) 1 1) [r] :=
  ⟨Turn.alloc _ _ _,by simp [hs],Or.inr ⟨w.heap.size,1,r.toArray,rfl,Nat.le_refl _,new1_0 w _,Nat.le_refl _,by unfold maxLen;omega,by simp [hs],by simp [← hs]⟩⟩
theorem Grow.snoc {w0 wB:World} {e size:Nat} {v:Value} {l:List (List Value)} {r:List Value} {gb cap:Nat} {o:Obj} (h:Grow w0 w e size v l) (hg:(w.alloc o).grownBy wB v.ownBlock) (hO:wB.ownsRow w0.heap.size e size (.slice (some ⟨gb,0,none⟩) (l.length+1) cap) (l.length+1) (l.flatten ++ r)):Grow w0 wB e size (.slice (some ⟨gb,0,none⟩) (l.length+1) cap) (l ++ [r]):=by
  refine ⟨(h.turn.sA).sT (Turn.grown hg) (fun k hk he=>absurd (h.row.lt k he.symm).1 (by omega)),?_⟩
  rw [List.length_append,List.flatten_append]
  simpa using hO
theorem RLies.putEnts (h:RLies own τ w br g t) {n:Nat} (hn:n<t.caches.length) {v:Value} {l:List Kept} (G:Grow w w1 138 6 v (l.map keptL)) :
    ∃ own',RLies own' τ (w1.setCell ⟨g.bc,n*3+1,none⟩ v) br { g with ev:=fun m=>if m=n then v else g.ev m } (t.setCac n { t.cac n with ents:=l })∧Step τ own own' w (w1.setCell ⟨g.bc,n*3+1,none⟩ v):=by
 have T:=G.turn
 have hO:=G.row
 have hold:∀ k,k<w.heap.size→putV own v (τ,10+n) k=own k:=fun k hk=>putV_old hO hk
 have hcac:∀ m,(t.setCac n { t.cac n with ents:=l }).cac m=if m=n then { t.cac n with ents:=l } else t.cac m:=fun m=>by
   rw [Tier.cac_set]
   by_cases e:m=n
   ·rw [if_pos ⟨e,hn⟩,if_pos e]
   ·rw [if_neg (fun c=>e c.1),if_neg e]
 have hbc:∀ k,v.ownBlock=some k→k≠g.bc:=fun k hk e=>by
   have:=(hO.lt k hk).1
   have:=h.cacs.lt
   omega
 have T2:Turn (fun k=>∃ x,(x=4∨x=10+n)∧own k=some (τ,x)) w (w1.setCell ⟨g.bc,n*3+1,none⟩ v):=(T.mono (fun _ _ h=>h.elim)).sS (Or.inr ⟨4,Or.inl rfl,h.cacsO⟩)
 have F:Fr (fun x=>x=4∨x=10+n) own (putV own v (τ,10+n)) τ w (w1.setCell ⟨g.bc,n*3+1,none⟩ v):=fr_of T2 (fun k hk _ _ _=>hold k hk)
 have h6:=h.few
 refine ⟨putV own v (τ,10+n),h.next _ F (putV_top hO (by simp) h.top T.size) (by omega) (Tier.length_set t n _) rfl rfl ?_ (by rw [hold br h.lt];exact h.blockO) (Or.inl ⟨by omega,rfl,rfl⟩) ?_ (by rw [hold g.bc h.cacs.lt];exact h.cacsO) (Or.inl ⟨by omega,rfl,rfl⟩) (Or.inl ⟨by omega,rfl,rfl⟩) (fun m hm=>?_) (fun m hm=>Or.inl ⟨by omega,rfl,?_⟩) (fun m hm f hf=>Or.inl ⟨by omega,rfl,f,?_,rfl,rfl⟩),step_of T2 (fun k hk=>Or.inl (hold k hk))⟩
 ·have:=F.block h.blockO (by omega) h.block
  rw [this]
  unfold refC
  rw [Tier.length_set];rfl
 ·refine (h.cacs.heap (T.block _ h.cacs.lt id)).put hn (by omega) v (Tier.length_set t n _) (fun m hm=>?_) (fun m hm=>?_) (fun m hm=>?_)
  ·rw [if_neg (by omega),hcac]
   split
   ·next e=>rw [e]
   ·rfl
  ·by_cases e:m=n
   ·show (if m=n∧1=1 then v else g.ev m)=(if m=n then v else g.ev m)
    rw [if_pos ⟨e,rfl⟩,if_pos e]
   ·show (if m=n∧1=1 then v else g.ev m)=(if m=n then v else g.ev m)
    rw [if_neg (fun c=>e c.1),if_neg e]
  ·rw [if_neg (by omega)]
 ·by_cases e:m=n
  ·subst e
   refine Or.inr ?_
   rw [hcac,if_pos rfl]
   show Row _ _ _ _ _ _ (if m=m then v else g.ev m) _
   rw [if_pos rfl]
   exact row_fresh hO (fun k hk=>hSO (hbc k hk))
  ·refine Or.inl ⟨by omega,?_,?_⟩
   ·show (if m=n then v else g.ev m)=_
    rw [if_neg e]
   ·rw [hcac,if_neg e]
 ·rw [hcac]
  split
  ·next e=>rw [e]
  ·rfl
 ·rw [hcac] at hf
  split at hf
  ·next e=>rw [e];exact hf
  ·exact hf
theorem infoKept:(Tryz.prog.info? 138).map (fun i=>(i.zero,i.size,i.bytes))=some (some (.agg #[.string ⟨#[]⟩,.int .i64 0,.int .i64 0,.string ⟨#[]⟩,.int .i64 0,.int .i64 0]),6,64):=by kernel_rfl
theorem filter_take (e:Kept) (l:List Kept) (j:Nat) (x:Kept) (h:l[j]?=some x):(l.take (j+1)).filter (fun y=>decide (y.key≠e.key))=(l.take j).filter (fun y=>decide (y.key≠e.key)) ++ if x.key≠e.key then [x] else []:=by
  rw [List.take_add_one,h,List.filter_append]
  congr 1
  by_cases c:x.key=e.key <;> simp [c]
theorem uses_end (e:Kept) (l:List Kept) (j N:Nat) (hN:(e :: (l.take j).filter fun y=>decide (y.key≠e.key)).length≤N) (h:j=l.length∨(e :: (l.take j).filter fun y=>decide (y.key≠e.key)).length=N):(e :: l.filter fun y=>decide (y.key≠e.key)).take N=e :: (l.take j).filter fun y=>decide (y.key≠e.key):=by
  rcases h with h|h
  ·rw [h,List.take_length] at hN ⊢
   exact List.take_of_length_le hN
  ·have:e :: l.filter (fun y=>decide (y.key≠e.key))=(e :: (l.take j).filter fun y=>decide (y.key≠e.key)) ++ (l.drop j).filter fun y=>decide (y.key≠e.key):=by
     rw [List.cons_append,← List.filter_append,List.take_append_drop]
   rw [this,← h]
   exact List.take_left
theorem ruses_any (h:RLies own τ w br g t) {n:Nat} (hn:n<t.caches.length) (hl:(t.cac n).ents.length≤1000000) (hE:1≤t.c.entries∧t.c.entries≤1000) (e:Kept):Calls Tryz.prog 115 #[.pointer (some ⟨br,0,none⟩),.int .i64 (n:Int),keptV e] w fun r w'=>r= .returned (.tuple #[])∧RLeaves own τ w br (t.uses n e) w':=by
  obtain ⟨ti,hi,hz0,hz1,hz2⟩:=info_parts infoKept
  obtain ⟨va,vc,hv⟩:=rowForm (h.ents n hn)
  have d6:w.cell? ⟨br,6,none⟩=some (.slice (some ⟨g.bc,0,none⟩) t.caches.length t.caches.length):=cOf h.block 6
  have d3:w.cell? ⟨br,3,none⟩=some (.int .i64 t.c.entries):=cOf h.block 3
  obtain ⟨_,k1,_,kf⟩:=h.cacs.at_ hn
  have HFIN:Hid (∀ (v:Value) (w1:World) (l:List Kept),l=(e :: (t.cac n).ents.filter fun x=>decide (x.key≠e.key)).take t.c.entries.toNat→Grow w w1 138 6 v (l.map keptL)→∃ own' g',RLies own' τ (w1.setCell ⟨g.bc,n*3+1,none⟩ v) br g' (t.uses n e)∧Step τ own own' w (w1.setCell ⟨g.bc,n*3+1,none⟩ v)):=fun v w1 l hl G=>by
    obtain ⟨o,R,S⟩:=h.putEnts hn G
    subst hl
    exact ⟨o,_,R,S⟩
  rw [hv] at k1
  have HA:Hid (∀ j x,(t.cac n).ents[j]?=some x→∃ b,va=some ⟨b,0,none⟩∧w.cell? ⟨b,j*6,none⟩=some (.string x.key)∧w.cell? ⟨b,j*6+1,none⟩=some (.int .i64 x.ver)∧w.cell? ⟨b,j*6+2,none⟩=some (.int .i64 x.pres)∧w.cell? ⟨b,j*6+3,none⟩=some (.string x.val)∧w.cell? ⟨b,j*6+4,none⟩=some (.int .i64 x.base)∧w.cell? ⟨b,j*6+5,none⟩=some (.int .i64 x.since)):=fun j x hj=>by
    obtain ⟨b,c',e',_,_,hc,_⟩:=rowAt (h.ents n hn) (fun _=>rfl) hj
    rw [hv] at e'
    cases e'
    exact ⟨b,rfl,hc 0 (by omega),hc 1 (by omega),hc 2 (by omega),hc 3 (by omega),hc 4 (by omega),hc 5 (by omega)⟩
  have hbr:=h.lt
  have hbc:=h.cacs.lt
  clear h hv
  have n0:(0:Int)≤(n:Int):=by omega
  have n1:(n:Int)<(t.caches.length:Int):=by omega
  generalize t.caches.length=m at *
  generalize (t.cac n).ents=old at *
  have HL:=hide hl
  have HEE:=hide hE
  obtain ⟨E,hEn⟩:∃ E:Nat,t.c.entries=(E:Int):=⟨t.c.entries.toNat,by omega⟩
  rw [hEn] at HFIN d3 HEE
  rw [Int.toNat_natCast] at HFIN
  generalize hN:old.length=N at *
  have HUE:=hide (fun j=>uses_end e old j E)
  have HFT:=hide (fun j x=>filter_take e old j x)
  clear hl hn hE hEn
  generalize t.uses n e=tu at *
  obtain ⟨key,ver,pres,val,base,since⟩:=e
  unfold keptV keptL
  dsimp only at *
  go_enter Tryz.func115,Tryz.ntmps115
  go_wp2
  generalize hW:World.alloc w _=W0
  have T0:Turn nO w W0:=by rw [← hW];exact Turn.alloc _ _ _
  have hsz:W0.heap.size=w.heap.size+1:=by rw [← hW];simp
  have x0:W0.cell? ⟨w.heap.size,0,none⟩=some (.string key):=by rw [← hW];exact cOf (new1_0 w _) 0
  have G0:Grow W0 (W0.alloc (.cells #[.string key,.int .i64 ver,.int .i64 pres,.string val,.int .i64 base,.int .i64 since] 138 (0,0))) 138 6 (.slice (some ⟨w.heap.size+1,0,none⟩) 1 1) [keptL ⟨key,ver,pres,val,base,since⟩]:=by
    have:=Grow.one (w:=W0) (e:=138) (size:=6) (r:=keptL ⟨key,ver,pres,val,base,since⟩) rfl
    rw [hsz] at this
    exact this
  have HG0:=hide G0
  have HT0:=hide T0
  have HX0:=hide x0
  have HD6:=hide d6
  have HD3:=hide d3
  have HK1:=hide k1
  have HKF:=hide kf
  clear hW G0 T0 x0 d6 d3 k1 kf
  go_loopw [6,8] (fun l i wr=>∃ (j:Nat) (v:Value),j≤N∧i= .int .i64 (j:Int)∧l=v∧(Kept.mk key ver pres val base since :: (old.take j).filter fun y=>decide (y.key≠key)).length≤E∧Hid (Grow W0 wr 138 6 v ((Kept.mk key ver pres val base since :: (old.take j).filter fun y=>decide (y.key≠key)).map keptL))) (fun _ i _=>N - (intOf i).toNat)
  case atStart=>exact ⟨0,_,Nat.zero_le _,rfl,rfl,by have:=(uH HEE).1;show 1≤E;omega,HG0⟩
  case round =>
    obtain ⟨j,v,jN,rfl,rfl,hLE,HG⟩:=hrel
    clear HG0
    have hjw:IntKind.i64.wrap ((j:Int)+1)=(j:Int)+1:=by rw [IntKind.wrap_i64];have:=uH HL;omega
    obtain ⟨va',vc',hv'⟩:=row_form (uH HG).row
    rw [List.length_map] at hv'
    subst hv'
    have TW:=(uH HG).turn
    have TW2:=(uH HT0).sT TW (fun _ _ h=>h)
    have x0:=TW.cell (uH HX0) id
    have d6:=TW2.cell (uH HD6) id
    have d3:=TW2.cell (uH HD3) id
    have k1:=TW2.cell (uH HK1) id
    have k1f:=TW2.froz (uH HK1) id (uH HKF (n*3+1))
    have hbw:br<wr.heap.size:=Nat.lt_of_lt_of_le hbr TW2.size
    have hbcw:g.bc<wr.heap.size:=Nat.lt_of_lt_of_le hbc TW2.size
    have hww:w.heap.size<wr.heap.size:=by have:=TW.size;omega
    have HEND:=hide (uH HUE j)
    have HST:=hide (uH HFT j)
    generalize hLL:(Kept.mk key ver pres val base since :: (old.take j).filter fun y=>decide (y.key≠key))=L at *
    have HLL:=hide hLL
    have HLE:=hide hLE
    have HLEN:Hid (L.length≤1000):=by have:=(uH HEE).2;show L.length≤1000;omega
    clear hLL hLE
    by_cases hgo:j<N∧L.length<E
    ·obtain ⟨hlt,hle⟩:=hgo
     obtain ⟨x,hx⟩:∃ x,old[j]?=some x:=⟨_,List.getElem?_eq_getElem (by omega)⟩
     obtain ⟨b,rfl,c0,c1,c2,c3,c4,c5⟩:=uH HA j x hx
     have c0:=TW2.cell c0 id
     have c1:=TW2.cell c1 id
     have c2:=TW2.cell c2 id
     have c3:=TW2.cell c3 id
     have c4:=TW2.cell c4 id
     have c5:=TW2.cell c5 id
     have j0:(0:Int)≤(j:Int):=by omega
     have j1:(j:Int)<(N:Int):=by omega
     have l1:(L.length:Int)<(E:Int):=by omega
     have hst:=uH HST x hx
     clear TW TW2
     by_cases hk:x.key=key
     ·have hkb:(x.key.toList == key.toList)=true:=by rw [bytes_same];exact decide_eq_true hk
      rw [if_neg (fun c=>c hk),List.append_nil] at hst
      have HL2:Hid (Kept.mk key ver pres val base since :: ((old.take (j+1)).filter fun y=>decide (y.key≠key))=L):=by show _=_;rw [hst];exact uH HLL
      clear hk hst hlt hle
      go_wp2
      go_quiet (fail)
      generalize hV:World.drewN wr _=V
      have TV:Turn nO wr V:=by rw [← hV];exact turn_drewN _ _ _
      have HGV:=hide ((uH HG).more TV)
      clear TV
      clear hV c0 c1 c2 c3 c4 c5 x0 d6 d3 k1 k1f HG HLL
      go_wp2
      go_roundw
      case rel =>
        refine ⟨j+1,_,by omega,by go_num,rfl,?_,?_⟩
        ·have:=uH HL2;rw [this];exact uH HLE
        ·have:=uH HL2;rw [this];exact HGV
      case measure=>simp [intOf];omega
     ·have hkb:(x.key.toList == key.toList)=false:=by rw [bytes_same];exact decide_eq_false hk
      rw [if_pos hk] at hst
      have HL2:Hid (Kept.mk key ver pres val base since :: ((old.take (j+1)).filter fun y=>decide (y.key≠key))=L ++ [x]):=by show _=_;rw [hst,← List.cons_append];rw [show _=L from uH HLL]
      clear hk hst hlt
      go_wp2
      go_quiet (fail)
      generalize hV:World.drewN wr _=V
      have TV:Turn nO wr V:=by rw [← hV];exact turn_drewN _ _ _
      have c0:=TV.cell c0 id
      have c1:=TV.cell c1 id
      have c2:=TV.cell c2 id
      have c3:=TV.cell c3 id
      have c4:=TV.cell c4 id
      have c5:=TV.cell c5 id
      have HGV:=hide ((uH HG).more TV)
      clear hV x0 d6 d3 k1 k1f HG HLL TV
      have hwV:W0.heap.size≤V.heap.size:=(uH HGV).turn.size
      have hrow:=hide (uH HGV).row
      have hlm:(L.map keptL).length=L.length:=List.length_map _
      generalize hxs:(L.map keptL).flatten=xs at *
      generalize hm:L.length=lm at *
      rw [hlm] at hrow
      obtain ⟨xk,xv,xp,xx,xb,xs'⟩:=x
      dsimp only at *
      go_wp2_with (at_builtin;refine wpList_append_lies _ (by rfl) _ _ _ (by rfl) W0.heap.size 138 ti _ 6 64 Tryz.underlying130 hi hz0 hz1 hz2 rfl (by omega) (.slice va' lm vc') lm xs ?c1 ?c2 ⟨V.heap.size,0,none⟩ 1 1 [.string xk,.int .i64 xv,.int .i64 xp,.string xx,.int .i64 xb,.int .i64 xs'] ?c3 ?c4 ?c5 ?c6 ?c7 ?c8 ?c9 ?c10 (V.heap.size+1) ?c11 ?_)
      case c1=>rfl
      case c2=>exact (uH hrow).alloc _
      case c3=>rfl
      case c4=>rfl
      case c5=>exact World.news_of_block (cs:=#[.string xk,.int .i64 xv,.int .i64 xp,.string xx,.int .i64 xb,.int .i64 xs']) (t:=138) (fr:=(0,0)) (new1_0 V _)
      case c6=>simp [Value.oneCell']
      case c7=>omega
      case c8=>have:=uH HLEN;unfold maxLen;omega
      case c9=>have:=uH HLEN;omega
      case c10=>simp;omega
      case c11=>simp
      intro gb cap2 w5 hown1 hgrow hat hlt5
      have HG5:Hid (Grow W0 w5 138 6 (.slice (some ⟨gb,0,none⟩) (lm+1) cap2) ((L ++ [Kept.mk xk xv xp xx xb xs']).map keptL)):=by
        have h1:=Grow.snoc (r:=keptL ⟨xk,xv,xp,xx,xb,xs'⟩) (uH HGV) hgrow (by rw [hlm,hxs,hsz];exact hown1)
        rw [hlm] at h1
        rw [List.map_append]
        exact h1
      clear hown1 hgrow hat hrow HGV c0 c1 c2 c3 c4 c5
      go_wp2
      go_roundw
      case rel =>
        refine ⟨j+1,_,by omega,by go_num,rfl,?_,?_⟩
        ·have:=uH HL2;rw [this,List.length_append,hm];show lm+1≤E;omega
        ·have:=uH HL2;rw [this];exact HG5
      case measure=>simp [intOf];omega
    ·have HE:=hide (uH HEND (uH HLE) (by have:=uH HLE;omega))
     obtain ⟨own',g',R,S⟩:=uH HFIN _ _ L (uH HE).symm ((uH HG).low (uH HT0))
     have HR:=hide (And.intro R S)
     clear R S TW TW2
     by_cases hlt:j<N
     ·have j1:(j:Int)<(N:Int):=by omega
      have l1:¬ (L.length:Int)<(E:Int):=by omega
      clear hgo
      go_wp2
      go_end0
      exact ⟨rfl,own',g',(uH HR).1,(uH HR).2⟩
     ·have j1:¬ (j:Int)<(N:Int):=by omega
      clear hgo
      go_wp2
      go_end0
      exact ⟨rfl,own',g',(uH HR).1,(uH HR).2⟩
theorem rrefused_client (h:RLies own τ w br g t) (hlen:t.answers.length<1000000000000) (n:Nat) (k:ByteArray) (x:Wtr) (hc:x.node<0) :
    Calls Tryz.prog 87 #[.pointer (some ⟨br,0,none⟩),.int .i64 (n:Int),.string k,wtrV x] w fun r w'=>r= .returned (.tuple #[])∧RLeaves own τ w br { t with answers:=t.answers ++ [⟨n,x.id,2,0,0,Tier.empty,0⟩] } w':=by
 obtain ⟨i0,hi,hz0,hz1,hz2⟩:=info_parts infoAns
 obtain ⟨node,cid,serial,tag⟩:=x
 dsimp only at hc
 unfold wtrV wtrL
 dsimp only
 have hlen':(t.answers.map ansL).length<1000000000000:=by simpa using hlen
 have hbt:br<w.heap.size:=h.lt
 have hNb:Hid (∀ k,some k=g.av.ownBlock→k<w.heap.size∧k≠br):=fun k hk=>⟨h.ans.lt hk.symm,fun e=>by have:=h.ans.mine k hk.symm;rw [e,h.blockO] at this;cases this⟩
 have HH:=hide h
 clear h hlen
 go_enter Tryz.func87,Tryz.ntmps87
 go_wp2
 generalize hW:World.alloc _ _=W0
 have T0:Turn nO w W0:=by rw [← hW];exact (Turn.alloc _ _ _)
 have hsz:W0.heap.size=w.heap.size+1:=by rw [← hW];simp
 have x0:∃ ty,W0.heap[w.heap.size]?=some (.cells #[.int .i64 node,.int .i64 cid,.int .i64 serial,.int .i64 tag] ty (0,0)):=by rw [← hW];exact ⟨_,new1_0 _ _⟩
 obtain ⟨x0_0,x0_1,x0_2,x0_3⟩:=eC4 x0
 have HL:=hide ((uH HH).turn T0)
 have c16:W0.cell? ⟨br,8,none⟩=some g.av:=cOf (uH HL).block 8
 have f16:W0.frozen? ⟨br,8,none⟩=false:=fOf (uH HL).block 8
 have hN:=hide (uH HL).ans.row
 have c16a:∀ o,(W0.alloc o).cell? ⟨br,8,none⟩=some g.av:=fun o=>(Turn.alloc nO W0 o).cell c16 id
 have hne0:br≠w.heap.size+1:=by omega
 clear hW
 generalize hxs:(t.answers.map ansL).flatten=xs at *
 generalize hn:(t.answers.map ansL).length=m at *
 have hm1:m+1≤maxLen:=by unfold maxLen;omega
 have hm2:(m+1)*64≤140737488355328:=by omega
 have HS:=fun w' (T:Turn (fun k=>k=br∨some k=g.av.ownBlock) W0 w')=>And.intro T (And.intro (T.cell x0_0 (fun h=>h.elim (fun e=>absurd e (by dsimp only;omega)) (fun e=>absurd (uH hNb _ e).1 (by dsimp only;omega)))) (And.intro (T.cell x0_1 (fun h=>h.elim (fun e=>absurd e (by dsimp only;omega)) (fun e=>absurd (uH hNb _ e).1 (by dsimp only;omega)))) (And.intro (T.cell x0_2 (fun h=>h.elim (fun e=>absurd e (by dsimp only;omega)) (fun e=>absurd (uH hNb _ e).1 (by dsimp only;omega)))) (T.cell x0_3 (fun h=>h.elim (fun e=>absurd e (by dsimp only;omega)) (fun e=>absurd (uH hNb _ e).1 (by dsimp only;omega)))))))
 refine wp_region_noPanic ?_
 refine wp_region_held_drew (S:=fun w'=>Turn (fun k=>k=br∨some k=g.av.ownBlock) W0 w'∧w'.cell? ⟨w.heap.size,0,none⟩=some (.int .i64 node)∧w'.cell? ⟨w.heap.size,1,none⟩=some (.int .i64 cid)∧w'.cell? ⟨w.heap.size,2,none⟩=some (.int .i64 serial)∧w'.cell? ⟨w.heap.size,3,none⟩=some (.int .i64 tag)) (by kernel_rfl) (HS _ ((Turn.refl _ _).sD)) (fun hHeld=>?_)
 refine tkE (i:=0) (v:=?_) rfl ?hy ?_
 case hy=>intro w hSw;(try dsimp only at hSw);go_simp;(try with_reducible rfl)
 (try go_frame)
 refine tkE (i:=1) (v:=?_) rfl ?hy ?_
 case hy=>intro w hSw;(try dsimp only at hSw);go_simp;(try with_reducible rfl)
 (try go_frame)
 refine tkE (i:=2) (v:=?_) rfl ?hy ?_
 case hy=>intro w hSw;(try dsimp only at hSw);go_simp;(try with_reducible rfl)
 (try go_frame)
 refine tkE (i:=3) (v:=?_) rfl ?hy ?_
 case hy=>intro w hSw;(try dsimp only at hSw);go_simp;(try with_reducible rfl)
 (try go_frame)
 refine tkE (i:=5) (v:=?_) rfl ?hy ?_
 case hy=>intro w hSw;(try dsimp only at hSw);go_simp;(try with_reducible rfl)
 (try go_frame)
 refine tkE (i:=6) (v:=?_) rfl ?hy ?_
 case hy=>intro w hSw;(try dsimp only at hSw);go_simp;(try with_reducible rfl)
 (try go_frame)
 refine tkE (i:=7) (v:=?_) rfl ?hy ?_
 case hy=>intro w hSw;(try dsimp only at hSw);go_simp;(try with_reducible rfl)
 (try go_frame)
 refine tkE (i:=8) (v:=?_) rfl ?hy ?_
 case hy=>intro w hSw;(try dsimp only at hSw);go_simp;(try with_reducible rfl)
 (try go_frame)
 refine wpAnyH_ready (rs:=[4,9]) (by kernel_rfl) (by simp) ?_
 refine AllReadyH.cons rfl (fun K hK=>?_) (AllReadyH.cons rfl (fun K hK=>?_) AllReadyH.nil)
 ·go_simp
  refine hK.out _ _ (HS _ ((Turn.refl _ _).sD)) (fun hHeld=>?_)
  clear hK K
  refine wpAnyH_ready (rs:=[9]) (by kernel_rfl) (by simp) ?_
  refine AllReadyH.cons rfl (fun K hK=>?_) AllReadyH.nil
  go_simp
  refine hK.out _ _ (HS _ tAD) (fun hHeld=>?_)
  clear hK K
  refine wpAnyH_ready (rs:=[10]) (by kernel_rfl) (by simp) ?_
  refine AllReadyH.cons rfl (fun K hK=>?_) AllReadyH.nil
  refine step_append_lies _ (by rfl) _ _ _ (by rfl) 0 63 i0 _ 7 64 Tryz.underlying61 hi hz0 hz1 hz2 rfl (by omega) g.av m xs (by rfl) ((uH hN).alloc _).drew ⟨w.heap.size+1,0,none⟩ 1 1 [.int .i64 (n:Int),.int .i64 cid,.int .i64 2,.int .i64 0,.int .i64 0,.string ⟨#[]⟩,.int .i64 0] (by rfl) (by rfl) (World.news_of_block (cs:=#[.int .i64 (n:Int),.int .i64 cid,.int .i64 2,.int .i64 0,.int .i64 0,.string ⟨#[]⟩,.int .i64 0]) (t:=63) (fr:=(0,0)) (hsz ▸ heap_alloc_new W0 _)) (by simp [Value.oneCell']) (by omega) hm1 hm2 (by simp) (w.heap.size+1+1) (by simp [hsz]) ?_;intro gb cap w1 hown1 hgrow hat hlt;have q16:=far_cell hgrow c16 (fun e=>(uH hNb _ e).2 rfl);have q16f:=far_froz hgrow c16 f16 (fun e=>(uH hNb _ e).2 rfl)
  refine hK.out _ _ (HS _ (tADG hgrow)) (fun hHeld=>?_)
  clear hK K
  refine tkE (i:=11) (v:=?_) rfl ?hy ?_
  case hy=>intro w hSw;(try dsimp only at hSw);go_simp;(try with_reducible rfl)
  (try go_frame)
  refine tkE (i:=12) (v:=?_) rfl ?hy ?_
  case hy=>intro w hSw;(try dsimp only at hSw);go_simp;(try with_reducible rfl)
  (try go_frame)
  refine wpAnyH_ready (rs:=[13]) (by kernel_rfl) (by simp) ?_
  refine AllReadyH.cons rfl (fun K hK=>?_) AllReadyH.nil
  go_simp
  refine hK.out _ _ (HS _ (tADGS hgrow)) (fun hHeld=>?_)
  clear hK K
  refine wpAnyH_done (by kernel_rfl) ?_ _
  refine NoPanic.normal ?_
  go_split_ands
  clear HS
  go_wp2
  subst hn
  subst hxs
  obtain ⟨L,S⟩:=((uH HL).turn ((Turn.alloc nO W0 _).sD)).gave (m:=⟨n,cid,2,0,0,Tier.empty,0⟩) hown1 hgrow (hat.imp id (fun e=>by rw [e];simp [hsz])) hlt
  exact bodyPost_ret (v:= .tuple #[]) (by simp [results,Tryz.results87,go_sem]) rfl ⟨rfl,_,_,L,((Step.of_turn T0).trans (Step.of_turn ((Turn.alloc nO W0 _).sD))).trans S⟩
 ·go_simp
  refine hK.out _ _ (HS _ tAD) (fun hHeld=>?_)
  clear hK K
  refine wpAnyH_ready (rs:=[4]) (by kernel_rfl) (by simp) ?_
  refine AllReadyH.cons rfl (fun K hK=>?_) AllReadyH.nil
  go_simp
  refine hK.out _ _ (HS _ tAD) (fun hHeld=>?_)
  clear hK K
  refine wpAnyH_ready (rs:=[10]) (by kernel_rfl) (by simp) ?_
  refine AllReadyH.cons rfl (fun K hK=>?_) AllReadyH.nil
  refine step_append_lies _ (by rfl) _ _ _ (by rfl) 0 63 i0 _ 7 64 Tryz.underlying61 hi hz0 hz1 hz2 rfl (by omega) g.av m xs (by rfl) ((uH hN).alloc _).drew ⟨w.heap.size+1,0,none⟩ 1 1 [.int .i64 (n:Int),.int .i64 cid,.int .i64 2,.int .i64 0,.int .i64 0,.string ⟨#[]⟩,.int .i64 0] (by rfl) (by rfl) (World.news_of_block (cs:=#[.int .i64 (n:Int),.int .i64 cid,.int .i64 2,.int .i64 0,.int .i64 0,.string ⟨#[]⟩,.int .i64 0]) (t:=63) (fr:=(0,0)) (hsz ▸ heap_alloc_new W0 _)) (by simp [Value.oneCell']) (by omega) hm1 hm2 (by simp) (w.heap.size+1+1) (by simp [hsz]) ?_;intro gb cap w1 hown1 hgrow hat hlt;have q16:=far_cell hgrow c16 (fun e=>(uH hNb _ e).2 rfl);have q16f:=far_froz hgrow c16 f16 (fun e=>(uH hNb _ e).2 rfl)
  refine hK.out _ _ (HS _ (tADG hgrow)) (fun hHeld=>?_)
  clear hK K
  refine tkE (i:=11) (v:=?_) rfl ?hy ?_
  case hy=>intro w hSw;(try dsimp only at hSw);go_simp;(try with_reducible rfl)
  (try go_frame)
  refine tkE (i:=12) (v:=?_) rfl ?hy ?_
  case hy=>intro w hSw;(try dsimp only at hSw);go_simp;(try with_reducible rfl)
  (try go_frame)
  refine wpAnyH_ready (rs:=[13]) (by kernel_rfl) (by simp) ?_
  refine AllReadyH.cons rfl (fun K hK=>?_) AllReadyH.nil
  go_simp
  refine hK.out _ _ (HS _ (tADGS hgrow)) (fun hHeld=>?_)
  clear hK K
  refine wpAnyH_done (by kernel_rfl) ?_ _
  refine NoPanic.normal ?_
  go_split_ands
  clear HS
  go_wp2
  subst hn
  subst hxs
  obtain ⟨L,S⟩:=((uH HL).turn ((Turn.alloc nO W0 _).sD)).gave (m:=⟨n,cid,2,0,0,Tier.empty,0⟩) hown1 hgrow (hat.imp id (fun e=>by rw [e];simp [hsz])) hlt
  exact bodyPost_ret (v:= .tuple #[]) (by simp [results,Tryz.results87,go_sem]) rfl ⟨rfl,_,_,L,((Step.of_turn T0).trans (Step.of_turn ((Turn.alloc nO W0 _).sD))).trans S⟩
theorem rrefused_child (h:RLies own τ w br g t) (hlen:t.net.length<1000000000000) (n:Nat) (k:ByteArray) (x:Wtr) (hc:¬ x.node<0) :
    Calls Tryz.prog 87 #[.pointer (some ⟨br,0,none⟩),.int .i64 (n:Int),.string k,wtrV x] w fun r w'=>r= .returned (.tuple #[])∧RLeaves own τ w br { t with net:=t.net ++ [⟨4,n,x.node,k,x.serial,0,0,0,Tier.empty⟩] } w':=by
 obtain ⟨i0,hi,hz0,hz1,hz2⟩:=info_parts infoMes
 obtain ⟨node,cid,serial,tag⟩:=x
 dsimp only at hc
 unfold wtrV wtrL
 dsimp only
 have hlen':(t.net.map mesL).length<1000000000000:=by simpa using hlen
 have hbt:br<w.heap.size:=h.lt
 have hNb:Hid (∀ k,some k=g.nv.ownBlock→k<w.heap.size∧k≠br):=fun k hk=>⟨h.net.lt hk.symm,fun e=>by have:=h.net.mine k hk.symm;rw [e,h.blockO] at this;cases this⟩
 have HH:=hide h
 clear h hlen
 go_enter Tryz.func87,Tryz.ntmps87
 go_wp2
 generalize hW:World.alloc _ _=W0
 have T0:Turn nO w W0:=by rw [← hW];exact (Turn.alloc _ _ _)
 have hsz:W0.heap.size=w.heap.size+1:=by rw [← hW];simp
 have x0:∃ ty,W0.heap[w.heap.size]?=some (.cells #[.int .i64 node,.int .i64 cid,.int .i64 serial,.int .i64 tag] ty (0,0)):=by rw [← hW];exact ⟨_,new1_0 _ _⟩
 obtain ⟨x0_0,x0_1,x0_2,x0_3⟩:=eC4 x0
 have HL:=hide ((uH HH).turn T0)
 have c16:W0.cell? ⟨br,7,none⟩=some g.nv:=cOf (uH HL).block 7
 have f16:W0.frozen? ⟨br,7,none⟩=false:=fOf (uH HL).block 7
 have hN:=hide (uH HL).net.row
 have c16a:∀ o,(W0.alloc o).cell? ⟨br,7,none⟩=some g.nv:=fun o=>(Turn.alloc nO W0 o).cell c16 id
 have hne0:br≠w.heap.size+1:=by omega
 clear hW
 generalize hxs:(t.net.map mesL).flatten=xs at *
 generalize hn:(t.net.map mesL).length=m at *
 have hm1:m+1≤maxLen:=by unfold maxLen;omega
 have hm2:(m+1)*88≤140737488355328:=by omega
 have HS:=fun w' (T:Turn (fun k=>k=br∨some k=g.nv.ownBlock) W0 w')=>And.intro T (And.intro (T.cell x0_0 (fun h=>h.elim (fun e=>absurd e (by dsimp only;omega)) (fun e=>absurd (uH hNb _ e).1 (by dsimp only;omega)))) (And.intro (T.cell x0_1 (fun h=>h.elim (fun e=>absurd e (by dsimp only;omega)) (fun e=>absurd (uH hNb _ e).1 (by dsimp only;omega)))) (And.intro (T.cell x0_2 (fun h=>h.elim (fun e=>absurd e (by dsimp only;omega)) (fun e=>absurd (uH hNb _ e).1 (by dsimp only;omega)))) (T.cell x0_3 (fun h=>h.elim (fun e=>absurd e (by dsimp only;omega)) (fun e=>absurd (uH hNb _ e).1 (by dsimp only;omega)))))))
 refine wp_region_noPanic ?_
 refine wp_region_held_drew (S:=fun w'=>Turn (fun k=>k=br∨some k=g.nv.ownBlock) W0 w'∧w'.cell? ⟨w.heap.size,0,none⟩=some (.int .i64 node)∧w'.cell? ⟨w.heap.size,1,none⟩=some (.int .i64 cid)∧w'.cell? ⟨w.heap.size,2,none⟩=some (.int .i64 serial)∧w'.cell? ⟨w.heap.size,3,none⟩=some (.int .i64 tag)) (by kernel_rfl) (HS _ ((Turn.refl _ _).sD)) (fun hHeld=>?_)
 refine tkE (i:=0) (v:=?_) rfl ?hy ?_
 case hy=>intro w hSw;(try dsimp only at hSw);go_simp;(try with_reducible rfl)
 (try go_frame)
 refine tkE (i:=1) (v:=?_) rfl ?hy ?_
 case hy=>intro w hSw;(try dsimp only at hSw);go_simp;(try with_reducible rfl)
 (try go_frame)
 refine tkE (i:=2) (v:=?_) rfl ?hy ?_
 case hy=>intro w hSw;(try dsimp only at hSw);go_simp;(try with_reducible rfl)
 (try go_frame)
 refine tkE (i:=3) (v:=?_) rfl ?hy ?_
 case hy=>intro w hSw;(try dsimp only at hSw);go_simp;(try with_reducible rfl)
 (try go_frame)
 refine tkE (i:=5) (v:=?_) rfl ?hy ?_
 case hy=>intro w hSw;(try dsimp only at hSw);go_simp;(try with_reducible rfl)
 (try go_frame)
 refine tkE (i:=6) (v:=?_) rfl ?hy ?_
 case hy=>intro w hSw;(try dsimp only at hSw);go_simp;(try with_reducible rfl)
 (try go_frame)
 refine tkE (i:=7) (v:=?_) rfl ?hy ?_
 case hy=>intro w hSw;(try dsimp only at hSw);go_simp;(try with_reducible rfl)
 (try go_frame)
 refine tkE (i:=8) (v:=?_) rfl ?hy ?_
 case hy=>intro w hSw;(try dsimp only at hSw);go_simp;(try with_reducible rfl)
 (try go_frame)
 refine tkE (i:=9) (v:=?_) rfl ?hy ?_
 case hy=>intro w hSw;(try dsimp only at hSw);go_simp;(try with_reducible rfl)
 (try go_frame)
 refine tkE (i:=10) (v:=?_) rfl ?hy ?_
 case hy=>intro w hSw;(try dsimp only at hSw);go_simp;(try with_reducible rfl)
 (try go_frame)
 refine tkE (i:=11) (v:=?_) rfl ?hy ?_
 case hy=>intro w hSw;(try dsimp only at hSw);go_simp;(try with_reducible rfl)
 (try go_frame)
 refine wpAnyH_ready (rs:=[4,12]) (by kernel_rfl) (by simp) ?_
 refine AllReadyH.cons rfl (fun K hK=>?_) (AllReadyH.cons rfl (fun K hK=>?_) AllReadyH.nil)
 ·go_simp
  refine hK.out _ _ (HS _ ((Turn.refl _ _).sD)) (fun hHeld=>?_)
  clear hK K
  refine wpAnyH_ready (rs:=[12]) (by kernel_rfl) (by simp) ?_
  refine AllReadyH.cons rfl (fun K hK=>?_) AllReadyH.nil
  go_simp
  refine hK.out _ _ (HS _ tAD) (fun hHeld=>?_)
  clear hK K
  refine wpAnyH_ready (rs:=[13]) (by kernel_rfl) (by simp) ?_
  refine AllReadyH.cons rfl (fun K hK=>?_) AllReadyH.nil
  refine step_append_lies _ (by rfl) _ _ _ (by rfl) 0 37 i0 _ 9 88 Tryz.underlying59 hi hz0 hz1 hz2 rfl (by omega) g.nv m xs (by rfl) ((uH hN).alloc _).drew ⟨w.heap.size+1,0,none⟩ 1 1 [.int .i64 4,.int .i64 (n:Int),.int .i64 node,.string k,.int .i64 serial,.int .i64 0,.int .i64 0,.int .i64 0,.string ⟨#[]⟩] (by rfl) (by rfl) (World.news_of_block (cs:=#[.int .i64 4,.int .i64 (n:Int),.int .i64 node,.string k,.int .i64 serial,.int .i64 0,.int .i64 0,.int .i64 0,.string ⟨#[]⟩]) (t:=37) (fr:=(0,0)) (hsz ▸ heap_alloc_new W0 _)) (by simp [Value.oneCell']) (by omega) hm1 hm2 (by simp) (w.heap.size+1+1) (by simp [hsz]) ?_;intro gb cap w1 hown1 hgrow hat hlt;have q16:=far_cell hgrow c16 (fun e=>(uH hNb _ e).2 rfl);have q16f:=far_froz hgrow c16 f16 (fun e=>(uH hNb _ e).2 rfl)
  refine hK.out _ _ (HS _ (tADG hgrow)) (fun hHeld=>?_)
  clear hK K
  refine tkE (i:=14) (v:=?_) rfl ?hy ?_
  case hy=>intro w hSw;(try dsimp only at hSw);go_simp;(try with_reducible rfl)
  (try go_frame)
  refine tkE (i:=15) (v:=?_) rfl ?hy ?_
  case hy=>intro w hSw;(try dsimp only at hSw);go_simp;(try with_reducible rfl)
  (try go_frame)
  refine wpAnyH_ready (rs:=[16]) (by kernel_rfl) (by simp) ?_
  refine AllReadyH.cons rfl (fun K hK=>?_) AllReadyH.nil
  go_simp
  refine hK.out _ _ (HS _ (tADGS hgrow)) (fun hHeld=>?_)
  clear hK K
  refine wpAnyH_done (by kernel_rfl) ?_ _
  refine NoPanic.normal ?_
  go_split_ands
  clear HS
  go_wp2
  subst hn
  subst hxs
  obtain ⟨L,S⟩:=((uH HL).turn ((Turn.alloc nO W0 _).sD)).sent (m:=⟨4,n,node,k,serial,0,0,0,Tier.empty⟩) hown1 hgrow (hat.imp id (fun e=>by rw [e];simp [hsz])) hlt
  go_end0
  exact ⟨rfl,_,_,L,((Step.of_turn T0).trans (Step.of_turn ((Turn.alloc nO W0 _).sD))).trans S⟩
 ·go_simp
  refine hK.out _ _ (HS _ tAD) (fun hHeld=>?_)
  clear hK K
  refine wpAnyH_ready (rs:=[4]) (by kernel_rfl) (by simp) ?_
  refine AllReadyH.cons rfl (fun K hK=>?_) AllReadyH.nil
  go_simp
  refine hK.out _ _ (HS _ tAD) (fun hHeld=>?_)
  clear hK K
  refine wpAnyH_ready (rs:=[13]) (by kernel_rfl) (by simp) ?_
  refine AllReadyH.cons rfl (fun K hK=>?_) AllReadyH.nil
  refine step_append_lies _ (by rfl) _ _ _ (by rfl) 0 37 i0 _ 9 88 Tryz.underlying59 hi hz0 hz1 hz2 rfl (by omega) g.nv m xs (by rfl) ((uH hN).alloc _).drew ⟨w.heap.size+1,0,none⟩ 1 1 [.int .i64 4,.int .i64 (n:Int),.int .i64 node,.string k,.int .i64 serial,.int .i64 0,.int .i64 0,.int .i64 0,.string ⟨#[]⟩] (by rfl) (by rfl) (World.news_of_block (cs:=#[.int .i64 4,.int .i64 (n:Int),.int .i64 node,.string k,.int .i64 serial,.int .i64 0,.int .i64 0,.int .i64 0,.string ⟨#[]⟩]) (t:=37) (fr:=(0,0)) (hsz ▸ heap_alloc_new W0 _)) (by simp [Value.oneCell']) (by omega) hm1 hm2 (by simp) (w.heap.size+1+1) (by simp [hsz]) ?_;intro gb cap w1 hown1 hgrow hat hlt;have q16:=far_cell hgrow c16 (fun e=>(uH hNb _ e).2 rfl);have q16f:=far_froz hgrow c16 f16 (fun e=>(uH hNb _ e).2 rfl)
  refine hK.out _ _ (HS _ (tADG hgrow)) (fun hHeld=>?_)
  clear hK K
  refine tkE (i:=14) (v:=?_) rfl ?hy ?_
  case hy=>intro w hSw;(try dsimp only at hSw);go_simp;(try with_reducible rfl)
  (try go_frame)
  refine tkE (i:=15) (v:=?_) rfl ?hy ?_
  case hy=>intro w hSw;(try dsimp only at hSw);go_simp;(try with_reducible rfl)
  (try go_frame)
  refine wpAnyH_ready (rs:=[16]) (by kernel_rfl) (by simp) ?_
  refine AllReadyH.cons rfl (fun K hK=>?_) AllReadyH.nil
  go_simp
  refine hK.out _ _ (HS _ (tADGS hgrow)) (fun hHeld=>?_)
  clear hK K
  refine wpAnyH_done (by kernel_rfl) ?_ _
  refine NoPanic.normal ?_
  go_split_ands
  clear HS
  go_wp2
  subst hn
  subst hxs
  obtain ⟨L,S⟩:=((uH HL).turn ((Turn.alloc nO W0 _).sD)).sent (m:=⟨4,n,node,k,serial,0,0,0,Tier.empty⟩) hown1 hgrow (hat.imp id (fun e=>by rw [e];simp [hsz])) hlt
  go_end0
  exact ⟨rfl,_,_,L,((Step.of_turn T0).trans (Step.of_turn ((Turn.alloc nO W0 _).sD))).trans S⟩
theorem rrefused_any (h:RLies own τ w br g t) (hl1:t.net.length<1000000000000) (hl2:t.answers.length<1000000000000) (n:Nat) (k:ByteArray) (x:Wtr) :
    Calls Tryz.prog 87 #[.pointer (some ⟨br,0,none⟩),.int .i64 (n:Int),.string k,wtrV x] w fun r w'=>r= .returned (.tuple #[])∧RLeaves own τ w br (t.refused n k x) w':=by
 unfold Tier.St.refused
 by_cases hc:x.node<0
 ·rw [if_pos hc];exact rrefused_client h hl2 n k x hc
 ·rw [if_neg hc];exact rrefused_child h hl1 n k x hc
structure CFine (t:St) (n:Nat):Prop where
  lt:n<t.caches.length
  len:(t.cac n).ents.length≤1000000
  fine:∀ e∈(t.cac n).ents,KFine t n e
  room:1≤t.c.entries∧t.c.entries≤1000
theorem RLeaves.trans {own1:Own} (R:RLeaves own1 τ w1 br t w') (S:Step τ own own1 w w1):RLeaves own τ w br t w':=by
  obtain ⟨o,g,R,S2⟩:=R.is
  exact ⟨o,g,R,S.trans S2⟩
theorem rtoldBy_any (h:RLies own τ w br g t) {n:Nat} (hf:CFine t n) (hl1:t.net.length<1000000000000) (hl2:t.answers.length<1000000000000) (k:ByteArray) (e:Kept) (he:t.entry n k=some e) (x:Wtr) :
    Calls Tryz.prog 107 #[.pointer (some ⟨br,0,none⟩),.int .i64 (n:Int),.string k,wtrV x] w fun r w'=>r= .returned (.tuple #[])∧RLeaves own τ w br (t.toldBy n e x) w':=by
 obtain ⟨i,e',h1,h2,h3,h4⟩:∃ (i:Nat) (x:Kept),idx Kept.key k (t.cac n).ents=(i:Int)∧(t.cac n).ents[i]?=some x∧x.key=k∧(t.cac n).ents.find? (fun e=>decide (e.key=k))=some x:=by
   rcases idx_spec Kept.key k (t.cac n).ents with h|⟨_,h2⟩
   ·exact h
   ·unfold Tier.St.entry at he;rw [h2] at he;cases he
 obtain rfl:e'=e:=by unfold Tier.St.entry at he;rw [h4] at he;exact Option.some.inj he
 have HH:=hide h
 have KE:Hid (∀ w',Turn nO w w'→Calls Tryz.prog 109 #[.pointer (some ⟨br,0,none⟩),.int .i64 (n:Int),.string k] w' fun e w''=>e= .returned (.int .i64 (i:Int))∧Turn nO w' w''):=fun w' T=>by
   refine (rentry_any ((uH HH).turn T) hf.lt hf.len k).mono ?_
   rintro e w'' ⟨rfl,rfl⟩
   exact ⟨by rw [h1],Turn.refl _ _⟩
 have KA:=hide (fun (w':World) (T:Turn nO w w')=>rage_any ((uH HH).turn T) hf.lt e' (hf.fine e' (List.mem_of_getElem? h2)))
 have KU:=hide (fun (w':World) (T:Turn nO w w')=>ruses_any ((uH HH).turn T) hf.lt hf.len hf.room e')
 obtain ⟨eb,ec,hv,_,_,hc,_⟩:=rowAt (h.ents n hf.lt) (fun _=>rfl) h2
 have d6:w.cell? ⟨br,6,none⟩=some (.slice (some ⟨g.bc,0,none⟩) t.caches.length t.caches.length):=cOf h.block 6
 obtain ⟨_,k1,_,_⟩:=h.cacs.at_ hf.lt
 rw [hv] at k1
 have hlt:i<(t.cac n).ents.length:=(List.getElem?_eq_some_iff.1 h2).1
 obtain ⟨c0,c1,c2,c3,c4,c5⟩:=rC6 hc
 have i0:(0:Int)≤(n:Int):=by omega
 have i1:(n:Int)<(t.caches.length:Int):=by have:=hf.lt;omega
 have j0:(0:Int)≤(i:Int):=by omega
 have j1:(i:Int)<((t.cac n).ents.length:Int):=by omega
 have hbr:=h.lt
 have HL12:=hide (And.intro hl1 hl2)
 have HTOP:=hide h.top
 have HTB:Hid (t.toldBy n e' x=if x.node<0 then { t.uses n e' with answers:=(t.uses n e').answers ++ [⟨n,x.id,1,e'.ver,e'.pres,e'.val,t.age n e'⟩] } else if x.tag=e'.ver then { t.uses n e' with net:=(t.uses n e').net ++ [⟨3,n,x.node,e'.key,x.serial,e'.ver,t.age n e',0,Tier.empty⟩] } else { t.uses n e' with net:=(t.uses n e').net ++ [⟨2,n,x.node,e'.key,x.serial,e'.ver,t.age n e',e'.pres,e'.val⟩] }):=rfl
 unfold keptV keptL at KA KU
 rw [h3] at c0 KA KU HTB
 generalize t.toldBy n e' x=tb at *
 have HTU:Hid ((t.uses n e').net=t.net∧(t.uses n e').answers=t.answers):=⟨rfl,rfl⟩
 generalize t.uses n e'=tu at *
 generalize t.age n e'=ag at *
 generalize (t.cac n).ents.length=el at *
 generalize t.caches.length=m at *
 clear h hc hv hf h1 h2 h3 h4 hlt he hl1 hl2
 obtain ⟨key,ver,pres,val,base,since⟩:=e'
 obtain ⟨node,cid,serial,tag⟩:=x
 unfold wtrV wtrL
 dsimp only at *
 go_enter Tryz.func107,Tryz.ntmps107
 go_wp2
 generalize hW:World.alloc _ _=W0
 have T0:Turn nO w W0:=by rw [← hW];exact (Turn.alloc _ _ _)
 have hsz:W0.heap.size=w.heap.size+1:=by rw [← hW];simp
 have x0:∃ ty,W0.heap[w.heap.size]?=some (.cells #[.int .i64 node,.int .i64 cid,.int .i64 serial,.int .i64 tag] ty (0,0)):=by rw [← hW];exact ⟨_,new1_0 _ _⟩
 obtain ⟨x0_0,x0_1,x0_2,x0_3⟩:=eC4 x0
 have d6:=T0.cell d6 id
 have k1:=T0.cell k1 id
 have c0:=T0.cell c0 id
 have c1:=T0.cell c1 id
 have c2:=T0.cell c2 id
 have c3:=T0.cell c3 id
 have c4:=T0.cell c4 id
 have c5:=T0.cell c5 id
 have KE2:=hide (fun (w':World) (T:Turn nO W0 w')=>uH KE w' (T0.sT T (fun _ _ h=>h)))
 clear hW KE
 go_cut [8] from 10 to 23 (fun s8 wx=>∃ eb,s8= .pointer (some ⟨eb,0,none⟩)∧Hid (w.heap.size<eb∧Turn nO W0 wx∧wx.cell? ⟨eb,0,none⟩=some (.string k)∧wx.cell? ⟨eb,1,none⟩=some (.int .i64 ver)∧wx.cell? ⟨eb,2,none⟩=some (.int .i64 pres)∧wx.cell? ⟨eb,3,none⟩=some (.string val)∧wx.cell? ⟨eb,4,none⟩=some (.int .i64 base)∧wx.cell? ⟨eb,5,none⟩=some (.int .i64 since)))
 case first =>
   have HS:=fun w' (T:Turn nO W0 w')=>And.intro T (And.intro (T.cell d6 id) (And.intro (T.cell k1 id) (And.intro (T.cell c0 id) (And.intro (T.cell c1 id) (And.intro (T.cell c2 id) (And.intro (T.cell c3 id) (And.intro (T.cell c4 id) (T.cell c5 id))))))))
   go_region_held3 (fun w'=>Turn nO W0 w'∧w'.cell? ⟨br,6,none⟩=some (.slice (some ⟨g.bc,0,none⟩) m m)∧w'.cell? ⟨g.bc,n*3+1,none⟩=some (.slice (some ⟨eb,0,none⟩) el ec)∧w'.cell? ⟨eb,i*6,none⟩=some (.string k)∧w'.cell? ⟨eb,i*6+1,none⟩=some (.int .i64 ver)∧w'.cell? ⟨eb,i*6+2,none⟩=some (.int .i64 pres)∧w'.cell? ⟨eb,i*6+3,none⟩=some (.string val)∧w'.cell? ⟨eb,i*6+4,none⟩=some (.int .i64 base)∧w'.cell? ⟨eb,i*6+5,none⟩=some (.int .i64 since)) ((go_split_ands;apply HS;all_goals (repeat (first|(with_reducible first|assumption|exact Turn.refl _ _|apply Turn.sA|apply Turn.sD|refine tN ?_ (by assumption))|((with_reducible refine Turn.sS ?_ ?_);rotate_left;· first|exact Or.inr rfl|exact Or.inr (Or.inl rfl)|exact Or.inl (by simp <;> omega))|(with_reducible refine tG ?_ (by assumption))|(with_reducible first|apply There.drew|apply There.set|refine hNo ?_ (by assumption))|assumption)))) (first|(go_at_call 109;go_split_ands;refine (uH KE2 _ (by assumption)).mono ?_;rintro e wq ⟨rfl,TC⟩;(try (have TH:=there_new (n:=5) TC hsz (by simp);have q0:=peek_some (TH.are 0 (by omega));have q1:=peek_some (TH.are 1 (by omega));have q2:=peek_some (TH.are 2 (by omega));have q3:=peek_some (TH.are 3 (by omega));have q4:=peek_some (TH.are 4 (by omega));have q5:=peek_some (TH.are 5 (by omega));have r0:=TH.free 0;have r1:=TH.free 1;have r2:=TH.free 2;have r3:=TH.free 3;have r4:=TH.free 4;have r5:=TH.free 5))))
   all_goals go_split_ands
   all_goals clear HS
   ·generalize hY:World.alloc _ _=Y
    have TY:Turn nO W0 Y:=by rw [← hY];assumption
    have z0:Y.cell? ⟨wq.heap.size,0,none⟩=some (.string k):=by rw [← hY];exact cOf (new1_0 wq _) 0
    have z1:Y.cell? ⟨wq.heap.size,1,none⟩=some (.int .i64 ver):=by rw [← hY];exact cOf (new1_0 wq _) 1
    have z2:Y.cell? ⟨wq.heap.size,2,none⟩=some (.int .i64 pres):=by rw [← hY];exact cOf (new1_0 wq _) 2
    have z3:Y.cell? ⟨wq.heap.size,3,none⟩=some (.string val):=by rw [← hY];exact cOf (new1_0 wq _) 3
    have z4:Y.cell? ⟨wq.heap.size,4,none⟩=some (.int .i64 base):=by rw [← hY];exact cOf (new1_0 wq _) 4
    have z5:Y.cell? ⟨wq.heap.size,5,none⟩=some (.int .i64 since):=by rw [← hY];exact cOf (new1_0 wq _) 5
    have hb5:w.heap.size<wq.heap.size:=by have:=TC.size;simp at this;omega
    have HE:=hide (And.intro hb5 (And.intro TY (And.intro z0 (And.intro z1 (And.intro z2 (And.intro z3 (And.intro z4 z5)))))))
    clear hY TC TY z0 z1 z2 z3 z4 z5 hb5
    go_wp2
    go_meet
    exact ⟨_,rfl,HE⟩
   ·generalize hY:World.setCell _ _ _=Y
    have TY:Turn nO W0 Y:=by rw [← hY];assumption
    have z0:Y.cell? ⟨w.heap.size+1,0,none⟩=some (.string k):=by rw [← hY];simp [go_sem,TH.are 0 (by omega)]
    have z1:Y.cell? ⟨w.heap.size+1,1,none⟩=some (.int .i64 ver):=by rw [← hY];simp [go_sem,TH.are 1 (by omega)]
    have z2:Y.cell? ⟨w.heap.size+1,2,none⟩=some (.int .i64 pres):=by rw [← hY];simp [go_sem,TH.are 2 (by omega)]
    have z3:Y.cell? ⟨w.heap.size+1,3,none⟩=some (.string val):=by rw [← hY];simp [go_sem,TH.are 3 (by omega)]
    have z4:Y.cell? ⟨w.heap.size+1,4,none⟩=some (.int .i64 base):=by rw [← hY];simp [go_sem,TH.are 4 (by omega)]
    have z5:Y.cell? ⟨w.heap.size+1,5,none⟩=some (.int .i64 since):=by rw [← hY];simp [go_sem,TH.are 5 (by omega)]
    have hb5:w.heap.size<w.heap.size+1:=by omega
    have HE:=hide (And.intro hb5 (And.intro TY (And.intro z0 (And.intro z1 (And.intro z2 (And.intro z3 (And.intro z4 z5)))))))
    clear hY TC TY z0 z1 z2 z3 z4 z5 TH q0 q1 q2 q3 q4 q5 r0 r1 r2 r3 r4 r5 hb5
    go_wp2
    go_meet
    exact ⟨_,rfl,HE⟩
 case rest =>
   obtain ⟨eb',rfl,HC⟩:=hcut
   rename World=>V
   obtain ⟨hb5,TV,z0,z1,z2,z3,z4,z5⟩:=uH HC
   have TV0:=T0.sT TV (fun _ _ h=>h)
   have x0_0:=TV.cell x0_0 id
   have x0_1:=TV.cell x0_1 id
   have x0_2:=TV.cell x0_2 id
   have x0_3:=TV.cell x0_3 id
   have KA2:=hide (uH KA V TV0)
   have KU2:=hide (fun (w':World) (T:Turn nO V w')=>uH KU w' (TV0.sT T (fun _ _ h=>h)))
   have HTV:=hide TV0
   clear KA KU d6 k1 c0 c1 c2 c3 c4 c5 KE2 HC TV TV0
   clear x0
   go_wp2_with fail
   refine (uH KA2).mono ?_
   rintro e w2 ⟨rfl,T2⟩
   have z0:=T2.cell z0 id
   have z1:=T2.cell z1 id
   have z2:=T2.cell z2 id
   have z3:=T2.cell z3 id
   have z4:=T2.cell z4 id
   have z5:=T2.cell z5 id
   have x0_0:=T2.cell x0_0 id
   have x0_1:=T2.cell x0_1 id
   have x0_2:=T2.cell x0_2 id
   have x0_3:=T2.cell x0_3 id
   have KU3:=hide (uH KU2 w2 T2)
   have HT2:=hide ((uH HTV).sT T2 (fun _ _ h=>h))
   clear KA2 KU2 T2 HTV
   go_wp2_with fail
   refine (uH KU3).mono ?_
   rintro e W0 ⟨rfl,R3⟩
   obtain ⟨own3,g3,R3,S3⟩:=R3.is
   have o1:own w.heap.size=none:=uH HTOP _ (Nat.le_refl _)
   have o2:own eb'=none:=uH HTOP _ (by omega)
   have ho1:Hid (own3 w.heap.size=none):=S3.free (cell_lt x0_0) o1
   have ho2:Hid (own3 eb'=none):=S3.free (cell_lt z0) o2
   have x0_0:=S3.cell x0_0 o1
   have x0_1:=S3.cell x0_1 o1
   have x0_2:=S3.cell x0_2 o1
   have x0_3:=S3.cell x0_3 o1
   have x1_0:=S3.cell z0 o2
   have x1_1:=S3.cell z1 o2
   have x1_2:=S3.cell z2 o2
   have x1_3:=S3.cell z3 o2
   have x1_4:=S3.cell z4 o2
   have x1_5:=S3.cell z5 o2
   have HL:=hide R3
   have HST:Hid (Step τ own own3 w W0):=(Step.of_turn (uH HT2)).trans S3
   have hbt:br<W0.heap.size:=R3.lt
   have hne0:br≠W0.heap.size:=by omega
   clear KU3 R3 S3 z0 z1 z2 z3 z4 z5 HT2 o1 o2
   by_cases hc:node<0
   ·have hcc:=hide hc
    obtain ⟨i0,hi,hz0,hz1,hz2⟩:=info_parts infoAns
    have hlen':(tu.answers.map ansL).length<1000000000000:=by rw [List.length_map,(uH HTU).2];exact (uH HL12).2
    have c16:W0.cell? ⟨br,8,none⟩=some g3.av:=cOf (uH HL).block 8
    have f16:W0.frozen? ⟨br,8,none⟩=false:=fOf (uH HL).block 8
    have hN:=hide (uH HL).ans.row
    have hNb:Hid (∀ k,some k=g3.av.ownBlock→k≠br):=fun k hk e=>by have:=(uH HL).ans.mine k hk.symm;rw [e,(uH HL).blockO] at this;cases this
    have nb0:¬ (w.heap.size=br∨some w.heap.size=g3.av.ownBlock):=fun h=>h.elim (fun e=>by have:=(uH HL).blockO;rw [← e,uH ho1] at this;cases this) (fun e=>by have:=(uH HL).ans.mine _ e.symm;rw [uH ho1] at this;cases this)
    have nb1:¬ (eb'=br∨some eb'=g3.av.ownBlock):=fun h=>h.elim (fun e=>by have:=(uH HL).blockO;rw [← e,uH ho2] at this;cases this) (fun e=>by have:=(uH HL).ans.mine _ e.symm;rw [uH ho2] at this;cases this)
    have c16a:∀ o,(W0.alloc o).cell? ⟨br,8,none⟩=some g3.av:=fun o=>(Turn.alloc nO W0 o).cell c16 id
    generalize hxs:(tu.answers.map ansL).flatten=xs at *
    generalize hn:(tu.answers.map ansL).length=m at *
    have hm1:m+1≤maxLen:=by unfold maxLen;omega
    have hm2:(m+1)*64≤140737488355328:=by omega
    go_wp2
    skip
    have HS:=fun w' (T:Turn (fun k=>k=br∨some k=g3.av.ownBlock) W0 w')=>And.intro T (And.intro (T.cell x0_0 (by first|exact nb0|exact nb1)) (And.intro (T.cell x0_1 (by first|exact nb0|exact nb1)) (And.intro (T.cell x0_2 (by first|exact nb0|exact nb1)) (And.intro (T.cell x0_3 (by first|exact nb0|exact nb1)) (And.intro (T.cell x1_0 (by first|exact nb0|exact nb1)) (And.intro (T.cell x1_1 (by first|exact nb0|exact nb1)) (And.intro (T.cell x1_2 (by first|exact nb0|exact nb1)) (And.intro (T.cell x1_3 (by first|exact nb0|exact nb1)) (And.intro (T.cell x1_4 (by first|exact nb0|exact nb1)) (T.cell x1_5 (by first|exact nb0|exact nb1)))))))))))
    refine wp_region_noPanic ?_
    refine wp_region_held_drew (S:=fun w'=>Turn (fun k=>k=br∨some k=g3.av.ownBlock) W0 w'∧w'.cell? ⟨w.heap.size,0,none⟩=some (.int .i64 node)∧w'.cell? ⟨w.heap.size,1,none⟩=some (.int .i64 cid)∧w'.cell? ⟨w.heap.size,2,none⟩=some (.int .i64 serial)∧w'.cell? ⟨w.heap.size,3,none⟩=some (.int .i64 tag)∧w'.cell? ⟨eb',0,none⟩=some (.string k)∧w'.cell? ⟨eb',1,none⟩=some (.int .i64 ver)∧w'.cell? ⟨eb',2,none⟩=some (.int .i64 pres)∧w'.cell? ⟨eb',3,none⟩=some (.string val)∧w'.cell? ⟨eb',4,none⟩=some (.int .i64 base)∧w'.cell? ⟨eb',5,none⟩=some (.int .i64 since)) (by kernel_rfl) (HS _ ((Turn.refl _ _).sD)) (fun hHeld=>?_)
    refine tkE (i:=0) (v:=?_) rfl ?hy ?_
    case hy=>intro w hSw;(try dsimp only at hSw);go_simp;(try with_reducible rfl)
    (try go_frame)
    refine tkE (i:=1) (v:=?_) rfl ?hy ?_
    case hy=>intro w hSw;(try dsimp only at hSw);go_simp;(try with_reducible rfl)
    (try go_frame)
    refine tkE (i:=2) (v:=?_) rfl ?hy ?_
    case hy=>intro w hSw;(try dsimp only at hSw);go_simp;(try with_reducible rfl)
    (try go_frame)
    refine tkE (i:=3) (v:=?_) rfl ?hy ?_
    case hy=>intro w hSw;(try dsimp only at hSw);go_simp;(try with_reducible rfl)
    (try go_frame)
    refine tkE (i:=5) (v:=?_) rfl ?hy ?_
    case hy=>intro w hSw;(try dsimp only at hSw);go_simp;(try with_reducible rfl)
    (try go_frame)
    refine tkE (i:=6) (v:=?_) rfl ?hy ?_
    case hy=>intro w hSw;(try dsimp only at hSw);go_simp;(try with_reducible rfl)
    (try go_frame)
    refine tkE (i:=7) (v:=?_) rfl ?hy ?_
    case hy=>intro w hSw;(try dsimp only at hSw);go_simp;(try with_reducible rfl)
    (try go_frame)
    refine tkE (i:=8) (v:=?_) rfl ?hy ?_
    case hy=>intro w hSw;(try dsimp only at hSw);go_simp;(try with_reducible rfl)
    (try go_frame)
    refine tkE (i:=9) (v:=?_) rfl ?hy ?_
    case hy=>intro w hSw;(try dsimp only at hSw);go_simp;(try with_reducible rfl)
    (try go_frame)
    refine tkE (i:=10) (v:=?_) rfl ?hy ?_
    case hy=>intro w hSw;(try dsimp only at hSw);go_simp;(try with_reducible rfl)
    (try go_frame)
    refine tkE (i:=11) (v:=?_) rfl ?hy ?_
    case hy=>intro w hSw;(try dsimp only at hSw);go_simp;(try with_reducible rfl)
    (try go_frame)
    refine tkE (i:=12) (v:=?_) rfl ?hy ?_
    case hy=>intro w hSw;(try dsimp only at hSw);go_simp;(try with_reducible rfl)
    (try go_frame)
    refine tkE (i:=13) (v:=?_) rfl ?hy ?_
    case hy=>intro w hSw;(try dsimp only at hSw);go_simp;(try with_reducible rfl)
    (try go_frame)
    refine tkE (i:=14) (v:=?_) rfl ?hy ?_
    case hy=>intro w hSw;(try dsimp only at hSw);go_simp;(try with_reducible rfl)
    (try go_frame)
    refine tkE (i:=15) (v:=?_) rfl ?hy ?_
    case hy=>intro w hSw;(try dsimp only at hSw);go_simp;(try with_reducible rfl)
    (try go_frame)
    refine tkE (i:=16) (v:=?_) rfl ?hy ?_
    case hy=>intro w hSw;(try dsimp only at hSw);go_simp;(try with_reducible rfl)
    (try go_frame)
    refine tkE (i:=17) (v:=?_) rfl ?hy ?_
    case hy=>intro w hSw;(try dsimp only at hSw);go_simp;(try with_reducible rfl)
    (try go_frame)
    refine tkE (i:=18) (v:=?_) rfl ?hy ?_
    case hy=>intro w hSw;(try dsimp only at hSw);go_simp;(try with_reducible rfl)
    (try go_frame)
    refine wpAnyH_ready (rs:=[4,19]) (by kernel_rfl) (by simp) ?_
    refine AllReadyH.cons rfl (fun K hK=>?_) (AllReadyH.cons rfl (fun K hK=>?_) AllReadyH.nil)
    ·go_simp
     refine hK.out _ _ (HS _ ((Turn.refl _ _).sD)) (fun hHeld=>?_)
     clear hK K
     refine wpAnyH_ready (rs:=[19]) (by kernel_rfl) (by simp) ?_
     refine AllReadyH.cons rfl (fun K hK=>?_) AllReadyH.nil
     go_simp
     refine hK.out _ _ (HS _ tAD) (fun hHeld=>?_)
     clear hK K
     refine wpAnyH_ready (rs:=[20]) (by kernel_rfl) (by simp) ?_
     refine AllReadyH.cons rfl (fun K hK=>?_) AllReadyH.nil
     refine step_append_lies _ (by rfl) _ _ _ (by rfl) 0 63 i0 _ 7 64 Tryz.underlying61 hi hz0 hz1 hz2 rfl (by omega) g3.av m xs (by rfl) ((uH hN).alloc _).drew ⟨W0.heap.size,0,none⟩ 1 1 [.int .i64 (n:Int),.int .i64 cid,.int .i64 1,.int .i64 ver,.int .i64 pres,.string val,.int .i64 ag] (by rfl) (by rfl) (World.news_of_block (cs:=#[.int .i64 (n:Int),.int .i64 cid,.int .i64 1,.int .i64 ver,.int .i64 pres,.string val,.int .i64 ag]) (t:=63) (fr:=(0,0)) (heap_alloc_new W0 _)) (by simp [Value.oneCell']) (by omega) hm1 hm2 (by simp) (W0.heap.size+1) (by simp) ?_;intro gb cap w1 hown1 hgrow hat hlt;have q16:=far_cell hgrow c16 (fun e=>uH hNb _ e rfl);have q16f:=far_froz hgrow c16 f16 (fun e=>uH hNb _ e rfl)
     refine hK.out _ _ (HS _ (tADG hgrow)) (fun hHeld=>?_)
     clear hK K
     refine tkE (i:=21) (v:=?_) rfl ?hy ?_
     case hy=>intro w hSw;(try dsimp only at hSw);go_simp;(try with_reducible rfl)
     (try go_frame)
     refine tkE (i:=22) (v:=?_) rfl ?hy ?_
     case hy=>intro w hSw;(try dsimp only at hSw);go_simp;(try with_reducible rfl)
     (try go_frame)
     refine wpAnyH_ready (rs:=[23]) (by kernel_rfl) (by simp) ?_
     refine AllReadyH.cons rfl (fun K hK=>?_) AllReadyH.nil
     go_simp
     refine hK.out _ _ (HS _ (tADGS hgrow)) (fun hHeld=>?_)
     clear hK K
     refine wpAnyH_done (by kernel_rfl) ?_ _
     refine NoPanic.normal ?_
     go_split_ands
     clear HS
     go_wp2
     subst hn
     subst hxs
     obtain ⟨L,S⟩:=((uH HL).turn ((Turn.alloc nO W0 _).sD)).gave (m:=⟨n,cid,1,ver,pres,val,ag⟩) hown1 hgrow (hat.imp id (fun e=>by rw [e];simp)) hlt
     go_end0
     exact ⟨rfl,_,_,(by rw [uH HTB,if_pos (uH hcc)];exact L),(((uH HST).trans (Step.of_turn ((Turn.alloc nO W0 _).sD))).trans S)⟩
    ·go_simp
     refine hK.out _ _ (HS _ tAD) (fun hHeld=>?_)
     clear hK K
     refine wpAnyH_ready (rs:=[4]) (by kernel_rfl) (by simp) ?_
     refine AllReadyH.cons rfl (fun K hK=>?_) AllReadyH.nil
     go_simp
     refine hK.out _ _ (HS _ tAD) (fun hHeld=>?_)
     clear hK K
     refine wpAnyH_ready (rs:=[20]) (by kernel_rfl) (by simp) ?_
     refine AllReadyH.cons rfl (fun K hK=>?_) AllReadyH.nil
     refine step_append_lies _ (by rfl) _ _ _ (by rfl) 0 63 i0 _ 7 64 Tryz.underlying61 hi hz0 hz1 hz2 rfl (by omega) g3.av m xs (by rfl) ((uH hN).alloc _).drew ⟨W0.heap.size,0,none⟩ 1 1 [.int .i64 (n:Int),.int .i64 cid,.int .i64 1,.int .i64 ver,.int .i64 pres,.string val,.int .i64 ag] (by rfl) (by rfl) (World.news_of_block (cs:=#[.int .i64 (n:Int),.int .i64 cid,.int .i64 1,.int .i64 ver,.int .i64 pres,.string val,.int .i64 ag]) (t:=63) (fr:=(0,0)) (heap_alloc_new W0 _)) (by simp [Value.oneCell']) (by omega) hm1 hm2 (by simp) (W0.heap.size+1) (by simp) ?_;intro gb cap w1 hown1 hgrow hat hlt;have q16:=far_cell hgrow c16 (fun e=>uH hNb _ e rfl);have q16f:=far_froz hgrow c16 f16 (fun e=>uH hNb _ e rfl)
     refine hK.out _ _ (HS _ (tADG hgrow)) (fun hHeld=>?_)
     clear hK K
     refine tkE (i:=21) (v:=?_) rfl ?hy ?_
     case hy=>intro w hSw;(try dsimp only at hSw);go_simp;(try with_reducible rfl)
     (try go_frame)
     refine tkE (i:=22) (v:=?_) rfl ?hy ?_
     case hy=>intro w hSw;(try dsimp only at hSw);go_simp;(try with_reducible rfl)
     (try go_frame)
     refine wpAnyH_ready (rs:=[23]) (by kernel_rfl) (by simp) ?_
     refine AllReadyH.cons rfl (fun K hK=>?_) AllReadyH.nil
     go_simp
     refine hK.out _ _ (HS _ (tADGS hgrow)) (fun hHeld=>?_)
     clear hK K
     refine wpAnyH_done (by kernel_rfl) ?_ _
     refine NoPanic.normal ?_
     go_split_ands
     clear HS
     go_wp2
     subst hn
     subst hxs
     obtain ⟨L,S⟩:=((uH HL).turn ((Turn.alloc nO W0 _).sD)).gave (m:=⟨n,cid,1,ver,pres,val,ag⟩) hown1 hgrow (hat.imp id (fun e=>by rw [e];simp)) hlt
     go_end0
     exact ⟨rfl,_,_,(by rw [uH HTB,if_pos (uH hcc)];exact L),(((uH HST).trans (Step.of_turn ((Turn.alloc nO W0 _).sD))).trans S)⟩
   ·have hcc:=hide hc
    by_cases hv:tag=ver
    ·subst hv
     obtain ⟨i0,hi,hz0,hz1,hz2⟩:=info_parts infoMes
     have hlen':(tu.net.map mesL).length<1000000000000:=by rw [List.length_map,(uH HTU).1];exact (uH HL12).1
     have c16:W0.cell? ⟨br,7,none⟩=some g3.nv:=cOf (uH HL).block 7
     have f16:W0.frozen? ⟨br,7,none⟩=false:=fOf (uH HL).block 7
     have hN:=hide (uH HL).net.row
     have hNb:Hid (∀ k,some k=g3.nv.ownBlock→k≠br):=fun k hk e=>by have:=(uH HL).net.mine k hk.symm;rw [e,(uH HL).blockO] at this;cases this
     have nb0:¬ (w.heap.size=br∨some w.heap.size=g3.nv.ownBlock):=fun h=>h.elim (fun e=>by have:=(uH HL).blockO;rw [← e,uH ho1] at this;cases this) (fun e=>by have:=(uH HL).net.mine _ e.symm;rw [uH ho1] at this;cases this)
     have nb1:¬ (eb'=br∨some eb'=g3.nv.ownBlock):=fun h=>h.elim (fun e=>by have:=(uH HL).blockO;rw [← e,uH ho2] at this;cases this) (fun e=>by have:=(uH HL).net.mine _ e.symm;rw [uH ho2] at this;cases this)
     have c16a:∀ o,(W0.alloc o).cell? ⟨br,7,none⟩=some g3.nv:=fun o=>(Turn.alloc nO W0 o).cell c16 id
     generalize hxs:(tu.net.map mesL).flatten=xs at *
     generalize hn:(tu.net.map mesL).length=m at *
     have hm1:m+1≤maxLen:=by unfold maxLen;omega
     have hm2:(m+1)*88≤140737488355328:=by omega
     go_wp2
     skip
     have HS:=fun w' (T:Turn (fun k=>k=br∨some k=g3.nv.ownBlock) W0 w')=>And.intro T (And.intro (T.cell x0_0 (by first|exact nb0|exact nb1)) (And.intro (T.cell x0_1 (by first|exact nb0|exact nb1)) (And.intro (T.cell x0_2 (by first|exact nb0|exact nb1)) (And.intro (T.cell x0_3 (by first|exact nb0|exact nb1)) (And.intro (T.cell x1_0 (by first|exact nb0|exact nb1)) (And.intro (T.cell x1_1 (by first|exact nb0|exact nb1)) (And.intro (T.cell x1_2 (by first|exact nb0|exact nb1)) (And.intro (T.cell x1_3 (by first|exact nb0|exact nb1)) (And.intro (T.cell x1_4 (by first|exact nb0|exact nb1)) (T.cell x1_5 (by first|exact nb0|exact nb1)))))))))))
     refine wp_region_noPanic ?_
     refine wp_region_held_drew (S:=fun w'=>Turn (fun k=>k=br∨some k=g3.nv.ownBlock) W0 w'∧w'.cell? ⟨w.heap.size,0,none⟩=some (.int .i64 node)∧w'.cell? ⟨w.heap.size,1,none⟩=some (.int .i64 cid)∧w'.cell? ⟨w.heap.size,2,none⟩=some (.int .i64 serial)∧w'.cell? ⟨w.heap.size,3,none⟩=some (.int .i64 tag)∧w'.cell? ⟨eb',0,none⟩=some (.string k)∧w'.cell? ⟨eb',1,none⟩=some (.int .i64 tag)∧w'.cell? ⟨eb',2,none⟩=some (.int .i64 pres)∧w'.cell? ⟨eb',3,none⟩=some (.string val)∧w'.cell? ⟨eb',4,none⟩=some (.int .i64 base)∧w'.cell? ⟨eb',5,none⟩=some (.int .i64 since)) (by kernel_rfl) (HS _ ((Turn.refl _ _).sD)) (fun hHeld=>?_)
     refine tkE (i:=0) (v:=?_) rfl ?hy ?_
     case hy=>intro w hSw;(try dsimp only at hSw);go_simp;(try with_reducible rfl)
     (try go_frame)
     refine tkE (i:=1) (v:=?_) rfl ?hy ?_
     case hy=>intro w hSw;(try dsimp only at hSw);go_simp;(try with_reducible rfl)
     (try go_frame)
     refine tkE (i:=2) (v:=?_) rfl ?hy ?_
     case hy=>intro w hSw;(try dsimp only at hSw);go_simp;(try with_reducible rfl)
     (try go_frame)
     refine tkE (i:=3) (v:=?_) rfl ?hy ?_
     case hy=>intro w hSw;(try dsimp only at hSw);go_simp;(try with_reducible rfl)
     (try go_frame)
     refine tkE (i:=5) (v:=?_) rfl ?hy ?_
     case hy=>intro w hSw;(try dsimp only at hSw);go_simp;(try with_reducible rfl)
     (try go_frame)
     refine tkE (i:=6) (v:=?_) rfl ?hy ?_
     case hy=>intro w hSw;(try dsimp only at hSw);go_simp;(try with_reducible rfl)
     (try go_frame)
     refine tkE (i:=7) (v:=?_) rfl ?hy ?_
     case hy=>intro w hSw;(try dsimp only at hSw);go_simp;(try with_reducible rfl)
     (try go_frame)
     refine tkE (i:=8) (v:=?_) rfl ?hy ?_
     case hy=>intro w hSw;(try dsimp only at hSw);go_simp;(try with_reducible rfl)
     (try go_frame)
     refine tkE (i:=9) (v:=?_) rfl ?hy ?_
     case hy=>intro w hSw;(try dsimp only at hSw);go_simp;(try with_reducible rfl)
     (try go_frame)
     refine tkE (i:=10) (v:=?_) rfl ?hy ?_
     case hy=>intro w hSw;(try dsimp only at hSw);go_simp;(try with_reducible rfl)
     (try go_frame)
     refine tkE (i:=11) (v:=?_) rfl ?hy ?_
     case hy=>intro w hSw;(try dsimp only at hSw);go_simp;(try with_reducible rfl)
     (try go_frame)
     refine tkE (i:=12) (v:=?_) rfl ?hy ?_
     case hy=>intro w hSw;(try dsimp only at hSw);go_simp;(try with_reducible rfl)
     (try go_frame)
     refine tkE (i:=13) (v:=?_) rfl ?hy ?_
     case hy=>intro w hSw;(try dsimp only at hSw);go_simp;(try with_reducible rfl)
     (try go_frame)
     refine tkE (i:=14) (v:=?_) rfl ?hy ?_
     case hy=>intro w hSw;(try dsimp only at hSw);go_simp;(try with_reducible rfl)
     (try go_frame)
     refine tkE (i:=15) (v:=?_) rfl ?hy ?_
     case hy=>intro w hSw;(try dsimp only at hSw);go_simp;(try with_reducible rfl)
     (try go_frame)
     refine wpAnyH_ready (rs:=[4,16]) (by kernel_rfl) (by simp) ?_
     refine AllReadyH.cons rfl (fun K hK=>?_) (AllReadyH.cons rfl (fun K hK=>?_) AllReadyH.nil)
     ·go_simp
      refine hK.out _ _ (HS _ ((Turn.refl _ _).sD)) (fun hHeld=>?_)
      clear hK K
      refine wpAnyH_ready (rs:=[16]) (by kernel_rfl) (by simp) ?_
      refine AllReadyH.cons rfl (fun K hK=>?_) AllReadyH.nil
      go_simp
      refine hK.out _ _ (HS _ tAD) (fun hHeld=>?_)
      clear hK K
      refine wpAnyH_ready (rs:=[17]) (by kernel_rfl) (by simp) ?_
      refine AllReadyH.cons rfl (fun K hK=>?_) AllReadyH.nil
      refine step_append_lies _ (by rfl) _ _ _ (by rfl) 0 37 i0 _ 9 88 Tryz.underlying59 hi hz0 hz1 hz2 rfl (by omega) g3.nv m xs (by rfl) ((uH hN).alloc _).drew ⟨W0.heap.size,0,none⟩ 1 1 [.int .i64 3,.int .i64 (n:Int),.int .i64 node,.string k,.int .i64 serial,.int .i64 tag,.int .i64 ag,.int .i64 0,.string ⟨#[]⟩] (by rfl) (by rfl) (World.news_of_block (cs:=#[.int .i64 3,.int .i64 (n:Int),.int .i64 node,.string k,.int .i64 serial,.int .i64 tag,.int .i64 ag,.int .i64 0,.string ⟨#[]⟩]) (t:=37) (fr:=(0,0)) (heap_alloc_new W0 _)) (by simp [Value.oneCell']) (by omega) hm1 hm2 (by simp) (W0.heap.size+1) (by simp) ?_;intro gb cap w1 hown1 hgrow hat hlt;have q16:=far_cell hgrow c16 (fun e=>uH hNb _ e rfl);have q16f:=far_froz hgrow c16 f16 (fun e=>uH hNb _ e rfl)
      refine hK.out _ _ (HS _ (tADG hgrow)) (fun hHeld=>?_)
      clear hK K
      refine tkE (i:=18) (v:=?_) rfl ?hy ?_
      case hy=>intro w hSw;(try dsimp only at hSw);go_simp;(try with_reducible rfl)
      (try go_frame)
      refine tkE (i:=19) (v:=?_) rfl ?hy ?_
      case hy=>intro w hSw;(try dsimp only at hSw);go_simp;(try with_reducible rfl)
      (try go_frame)
      refine wpAnyH_ready (rs:=[20]) (by kernel_rfl) (by simp) ?_
      refine AllReadyH.cons rfl (fun K hK=>?_) AllReadyH.nil
      go_simp
      refine hK.out _ _ (HS _ (tADGS hgrow)) (fun hHeld=>?_)
      clear hK K
      refine wpAnyH_done (by kernel_rfl) ?_ _
      refine NoPanic.normal ?_
      go_split_ands
      clear HS
      go_wp2
      subst hn
      subst hxs
      obtain ⟨L,S⟩:=((uH HL).turn ((Turn.alloc nO W0 _).sD)).sent (m:=⟨3,n,node,k,serial,tag,ag,0,Tier.empty⟩) hown1 hgrow (hat.imp id (fun e=>by rw [e];simp)) hlt
      go_end0
      exact ⟨rfl,_,_,(by rw [uH HTB,if_neg (by have:=uH hcc;omega)];first|(rw [if_pos trivial];exact L)|(rw [if_pos rfl];exact L)),(((uH HST).trans (Step.of_turn ((Turn.alloc nO W0 _).sD))).trans S)⟩
     ·go_simp
      refine hK.out _ _ (HS _ tAD) (fun hHeld=>?_)
      clear hK K
      refine wpAnyH_ready (rs:=[4]) (by kernel_rfl) (by simp) ?_
      refine AllReadyH.cons rfl (fun K hK=>?_) AllReadyH.nil
      go_simp
      refine hK.out _ _ (HS _ tAD) (fun hHeld=>?_)
      clear hK K
      refine wpAnyH_ready (rs:=[17]) (by kernel_rfl) (by simp) ?_
      refine AllReadyH.cons rfl (fun K hK=>?_) AllReadyH.nil
      refine step_append_lies _ (by rfl) _ _ _ (by rfl) 0 37 i0 _ 9 88 Tryz.underlying59 hi hz0 hz1 hz2 rfl (by omega) g3.nv m xs (by rfl) ((uH hN).alloc _).drew ⟨W0.heap.size,0,none⟩ 1 1 [.int .i64 3,.int .i64 (n:Int),.int .i64 node,.string k,.int .i64 serial,.int .i64 tag,.int .i64 ag,.int .i64 0,.string ⟨#[]⟩] (by rfl) (by rfl) (World.news_of_block (cs:=#[.int .i64 3,.int .i64 (n:Int),.int .i64 node,.string k,.int .i64 serial,.int .i64 tag,.int .i64 ag,.int .i64 0,.string ⟨#[]⟩]) (t:=37) (fr:=(0,0)) (heap_alloc_new W0 _)) (by simp [Value.oneCell']) (by omega) hm1 hm2 (by simp) (W0.heap.size+1) (by simp) ?_;intro gb cap w1 hown1 hgrow hat hlt;have q16:=far_cell hgrow c16 (fun e=>uH hNb _ e rfl);have q16f:=far_froz hgrow c16 f16 (fun e=>uH hNb _ e rfl)
      refine hK.out _ _ (HS _ (tADG hgrow)) (fun hHeld=>?_)
      clear hK K
      refine tkE (i:=18) (v:=?_) rfl ?hy ?_
      case hy=>intro w hSw;(try dsimp only at hSw);go_simp;(try with_reducible rfl)
      (try go_frame)
      refine tkE (i:=19) (v:=?_) rfl ?hy ?_
      case hy=>intro w hSw;(try dsimp only at hSw);go_simp;(try with_reducible rfl)
      (try go_frame)
      refine wpAnyH_ready (rs:=[20]) (by kernel_rfl) (by simp) ?_
      refine AllReadyH.cons rfl (fun K hK=>?_) AllReadyH.nil
      go_simp
      refine hK.out _ _ (HS _ (tADGS hgrow)) (fun hHeld=>?_)
      clear hK K
      refine wpAnyH_done (by kernel_rfl) ?_ _
      refine NoPanic.normal ?_
      go_split_ands
      clear HS
      go_wp2
      subst hn
      subst hxs
      obtain ⟨L,S⟩:=((uH HL).turn ((Turn.alloc nO W0 _).sD)).sent (m:=⟨3,n,node,k,serial,tag,ag,0,Tier.empty⟩) hown1 hgrow (hat.imp id (fun e=>by rw [e];simp)) hlt
      go_end0
      exact ⟨rfl,_,_,(by rw [uH HTB,if_neg (by have:=uH hcc;omega)];first|(rw [if_pos trivial];exact L)|(rw [if_pos rfl];exact L)),(((uH HST).trans (Step.of_turn ((Turn.alloc nO W0 _).sD))).trans S)⟩
    ·have hvv:=hide hv
     obtain ⟨i0,hi,hz0,hz1,hz2⟩:=info_parts infoMes
     have hlen':(tu.net.map mesL).length<1000000000000:=by rw [List.length_map,(uH HTU).1];exact (uH HL12).1
     have c16:W0.cell? ⟨br,7,none⟩=some g3.nv:=cOf (uH HL).block 7
     have f16:W0.frozen? ⟨br,7,none⟩=false:=fOf (uH HL).block 7
     have hN:=hide (uH HL).net.row
     have hNb:Hid (∀ k,some k=g3.nv.ownBlock→k≠br):=fun k hk e=>by have:=(uH HL).net.mine k hk.symm;rw [e,(uH HL).blockO] at this;cases this
     have nb0:¬ (w.heap.size=br∨some w.heap.size=g3.nv.ownBlock):=fun h=>h.elim (fun e=>by have:=(uH HL).blockO;rw [← e,uH ho1] at this;cases this) (fun e=>by have:=(uH HL).net.mine _ e.symm;rw [uH ho1] at this;cases this)
     have nb1:¬ (eb'=br∨some eb'=g3.nv.ownBlock):=fun h=>h.elim (fun e=>by have:=(uH HL).blockO;rw [← e,uH ho2] at this;cases this) (fun e=>by have:=(uH HL).net.mine _ e.symm;rw [uH ho2] at this;cases this)
     have c16a:∀ o,(W0.alloc o).cell? ⟨br,7,none⟩=some g3.nv:=fun o=>(Turn.alloc nO W0 o).cell c16 id
     generalize hxs:(tu.net.map mesL).flatten=xs at *
     generalize hn:(tu.net.map mesL).length=m at *
     have hm1:m+1≤maxLen:=by unfold maxLen;omega
     have hm2:(m+1)*88≤140737488355328:=by omega
     go_wp2
     skip
     have HS:=fun w' (T:Turn (fun k=>k=br∨some k=g3.nv.ownBlock) W0 w')=>And.intro T (And.intro (T.cell x0_0 (by first|exact nb0|exact nb1)) (And.intro (T.cell x0_1 (by first|exact nb0|exact nb1)) (And.intro (T.cell x0_2 (by first|exact nb0|exact nb1)) (And.intro (T.cell x0_3 (by first|exact nb0|exact nb1)) (And.intro (T.cell x1_0 (by first|exact nb0|exact nb1)) (And.intro (T.cell x1_1 (by first|exact nb0|exact nb1)) (And.intro (T.cell x1_2 (by first|exact nb0|exact nb1)) (And.intro (T.cell x1_3 (by first|exact nb0|exact nb1)) (And.intro (T.cell x1_4 (by first|exact nb0|exact nb1)) (T.cell x1_5 (by first|exact nb0|exact nb1)))))))))))
     refine wp_region_noPanic ?_
     refine wp_region_held_drew (S:=fun w'=>Turn (fun k=>k=br∨some k=g3.nv.ownBlock) W0 w'∧w'.cell? ⟨w.heap.size,0,none⟩=some (.int .i64 node)∧w'.cell? ⟨w.heap.size,1,none⟩=some (.int .i64 cid)∧w'.cell? ⟨w.heap.size,2,none⟩=some (.int .i64 serial)∧w'.cell? ⟨w.heap.size,3,none⟩=some (.int .i64 tag)∧w'.cell? ⟨eb',0,none⟩=some (.string k)∧w'.cell? ⟨eb',1,none⟩=some (.int .i64 ver)∧w'.cell? ⟨eb',2,none⟩=some (.int .i64 pres)∧w'.cell? ⟨eb',3,none⟩=some (.string val)∧w'.cell? ⟨eb',4,none⟩=some (.int .i64 base)∧w'.cell? ⟨eb',5,none⟩=some (.int .i64 since)) (by kernel_rfl) (HS _ ((Turn.refl _ _).sD)) (fun hHeld=>?_)
     refine tkE (i:=0) (v:=?_) rfl ?hy ?_
     case hy=>intro w hSw;(try dsimp only at hSw);go_simp;(try with_reducible rfl)
     (try go_frame)
     refine tkE (i:=1) (v:=?_) rfl ?hy ?_
     case hy=>intro w hSw;(try dsimp only at hSw);go_simp;(try with_reducible rfl)
     (try go_frame)
     refine tkE (i:=2) (v:=?_) rfl ?hy ?_
     case hy=>intro w hSw;(try dsimp only at hSw);go_simp;(try with_reducible rfl)
     (try go_frame)
     refine tkE (i:=3) (v:=?_) rfl ?hy ?_
     case hy=>intro w hSw;(try dsimp only at hSw);go_simp;(try with_reducible rfl)
     (try go_frame)
     refine tkE (i:=5) (v:=?_) rfl ?hy ?_
     case hy=>intro w hSw;(try dsimp only at hSw);go_simp;(try with_reducible rfl)
     (try go_frame)
     refine tkE (i:=6) (v:=?_) rfl ?hy ?_
     case hy=>intro w hSw;(try dsimp only at hSw);go_simp;(try with_reducible rfl)
     (try go_frame)
     refine tkE (i:=7) (v:=?_) rfl ?hy ?_
     case hy=>intro w hSw;(try dsimp only at hSw);go_simp;(try with_reducible rfl)
     (try go_frame)
     refine tkE (i:=8) (v:=?_) rfl ?hy ?_
     case hy=>intro w hSw;(try dsimp only at hSw);go_simp;(try with_reducible rfl)
     (try go_frame)
     refine tkE (i:=9) (v:=?_) rfl ?hy ?_
     case hy=>intro w hSw;(try dsimp only at hSw);go_simp;(try with_reducible rfl)
     (try go_frame)
     refine tkE (i:=10) (v:=?_) rfl ?hy ?_
     case hy=>intro w hSw;(try dsimp only at hSw);go_simp;(try with_reducible rfl)
     (try go_frame)
     refine tkE (i:=11) (v:=?_) rfl ?hy ?_
     case hy=>intro w hSw;(try dsimp only at hSw);go_simp;(try with_reducible rfl)
     (try go_frame)
     refine tkE (i:=12) (v:=?_) rfl ?hy ?_
     case hy=>intro w hSw;(try dsimp only at hSw);go_simp;(try with_reducible rfl)
     (try go_frame)
     refine tkE (i:=13) (v:=?_) rfl ?hy ?_
     case hy=>intro w hSw;(try dsimp only at hSw);go_simp;(try with_reducible rfl)
     (try go_frame)
     refine tkE (i:=14) (v:=?_) rfl ?hy ?_
     case hy=>intro w hSw;(try dsimp only at hSw);go_simp;(try with_reducible rfl)
     (try go_frame)
     refine tkE (i:=15) (v:=?_) rfl ?hy ?_
     case hy=>intro w hSw;(try dsimp only at hSw);go_simp;(try with_reducible rfl)
     (try go_frame)
     refine tkE (i:=16) (v:=?_) rfl ?hy ?_
     case hy=>intro w hSw;(try dsimp only at hSw);go_simp;(try with_reducible rfl)
     (try go_frame)
     refine tkE (i:=17) (v:=?_) rfl ?hy ?_
     case hy=>intro w hSw;(try dsimp only at hSw);go_simp;(try with_reducible rfl)
     (try go_frame)
     refine tkE (i:=18) (v:=?_) rfl ?hy ?_
     case hy=>intro w hSw;(try dsimp only at hSw);go_simp;(try with_reducible rfl)
     (try go_frame)
     refine tkE (i:=19) (v:=?_) rfl ?hy ?_
     case hy=>intro w hSw;(try dsimp only at hSw);go_simp;(try with_reducible rfl)
     (try go_frame)
     refine tkE (i:=20) (v:=?_) rfl ?hy ?_
     case hy=>intro w hSw;(try dsimp only at hSw);go_simp;(try with_reducible rfl)
     (try go_frame)
     refine tkE (i:=21) (v:=?_) rfl ?hy ?_
     case hy=>intro w hSw;(try dsimp only at hSw);go_simp;(try with_reducible rfl)
     (try go_frame)
     refine wpAnyH_ready (rs:=[4,22]) (by kernel_rfl) (by simp) ?_
     refine AllReadyH.cons rfl (fun K hK=>?_) (AllReadyH.cons rfl (fun K hK=>?_) AllReadyH.nil)
     ·go_simp
      refine hK.out _ _ (HS _ ((Turn.refl _ _).sD)) (fun hHeld=>?_)
      clear hK K
      refine wpAnyH_ready (rs:=[22]) (by kernel_rfl) (by simp) ?_
      refine AllReadyH.cons rfl (fun K hK=>?_) AllReadyH.nil
      go_simp
      refine hK.out _ _ (HS _ tAD) (fun hHeld=>?_)
      clear hK K
      refine wpAnyH_ready (rs:=[23]) (by kernel_rfl) (by simp) ?_
      refine AllReadyH.cons rfl (fun K hK=>?_) AllReadyH.nil
      refine step_append_lies _ (by rfl) _ _ _ (by rfl) 0 37 i0 _ 9 88 Tryz.underlying59 hi hz0 hz1 hz2 rfl (by omega) g3.nv m xs (by rfl) ((uH hN).alloc _).drew ⟨W0.heap.size,0,none⟩ 1 1 [.int .i64 2,.int .i64 (n:Int),.int .i64 node,.string k,.int .i64 serial,.int .i64 ver,.int .i64 ag,.int .i64 pres,.string val] (by rfl) (by rfl) (World.news_of_block (cs:=#[.int .i64 2,.int .i64 (n:Int),.int .i64 node,.string k,.int .i64 serial,.int .i64 ver,.int .i64 ag,.int .i64 pres,.string val]) (t:=37) (fr:=(0,0)) (heap_alloc_new W0 _)) (by simp [Value.oneCell']) (by omega) hm1 hm2 (by simp) (W0.heap.size+1) (by simp) ?_;intro gb cap w1 hown1 hgrow hat hlt;have q16:=far_cell hgrow c16 (fun e=>uH hNb _ e rfl);have q16f:=far_froz hgrow c16 f16 (fun e=>uH hNb _ e rfl)
      refine hK.out _ _ (HS _ (tADG hgrow)) (fun hHeld=>?_)
      clear hK K
      refine tkE (i:=24) (v:=?_) rfl ?hy ?_
      case hy=>intro w hSw;(try dsimp only at hSw);go_simp;(try with_reducible rfl)
      (try go_frame)
      refine tkE (i:=25) (v:=?_) rfl ?hy ?_
      case hy=>intro w hSw;(try dsimp only at hSw);go_simp;(try with_reducible rfl)
      (try go_frame)
      refine wpAnyH_ready (rs:=[26]) (by kernel_rfl) (by simp) ?_
      refine AllReadyH.cons rfl (fun K hK=>?_) AllReadyH.nil
      go_simp
      refine hK.out _ _ (HS _ (tADGS hgrow)) (fun hHeld=>?_)
      clear hK K
      refine wpAnyH_done (by kernel_rfl) ?_ _
      refine NoPanic.normal ?_
      go_split_ands
      clear HS
      go_wp2
      subst hn
      subst hxs
      obtain ⟨L,S⟩:=((uH HL).turn ((Turn.alloc nO W0 _).sD)).sent (m:=⟨2,n,node,k,serial,ver,ag,pres,val⟩) hown1 hgrow (hat.imp id (fun e=>by rw [e];simp)) hlt
      go_end0
      exact ⟨rfl,_,_,(by rw [uH HTB,if_neg (by have:=uH hcc;omega),if_neg (uH hvv)];exact L),(((uH HST).trans (Step.of_turn ((Turn.alloc nO W0 _).sD))).trans S)⟩
     ·go_simp
      refine hK.out _ _ (HS _ tAD) (fun hHeld=>?_)
      clear hK K
      refine wpAnyH_ready (rs:=[4]) (by kernel_rfl) (by simp) ?_
      refine AllReadyH.cons rfl (fun K hK=>?_) AllReadyH.nil
      go_simp
      refine hK.out _ _ (HS _ tAD) (fun hHeld=>?_)
      clear hK K
      refine wpAnyH_ready (rs:=[23]) (by kernel_rfl) (by simp) ?_
      refine AllReadyH.cons rfl (fun K hK=>?_) AllReadyH.nil
      refine step_append_lies _ (by rfl) _ _ _ (by rfl) 0 37 i0 _ 9 88 Tryz.underlying59 hi hz0 hz1 hz2 rfl (by omega) g3.nv m xs (by rfl) ((uH hN).alloc _).drew ⟨W0.heap.size,0,none⟩ 1 1 [.int .i64 2,.int .i64 (n:Int),.int .i64 node,.string k,.int .i64 serial,.int .i64 ver,.int .i64 ag,.int .i64 pres,.string val] (by rfl) (by rfl) (World.news_of_block (cs:=#[.int .i64 2,.int .i64 (n:Int),.int .i64 node,.string k,.int .i64 serial,.int .i64 ver,.int .i64 ag,.int .i64 pres,.string val]) (t:=37) (fr:=(0,0)) (heap_alloc_new W0 _)) (by simp [Value.oneCell']) (by omega) hm1 hm2 (by simp) (W0.heap.size+1) (by simp) ?_;intro gb cap w1 hown1 hgrow hat hlt;have q16:=far_cell hgrow c16 (fun e=>uH hNb _ e rfl);have q16f:=far_froz hgrow c16 f16 (fun e=>uH hNb _ e rfl)
      refine hK.out _ _ (HS _ (tADG hgrow)) (fun hHeld=>?_)
      clear hK K
      refine tkE (i:=24) (v:=?_) rfl ?hy ?_
      case hy=>intro w hSw;(try dsimp only at hSw);go_simp;(try with_reducible rfl)
      (try go_frame)
      refine tkE (i:=25) (v:=?_) rfl ?hy ?_
      case hy=>intro w hSw;(try dsimp only at hSw);go_simp;(try with_reducible rfl)
      (try go_frame)
      refine wpAnyH_ready (rs:=[26]) (by kernel_rfl) (by simp) ?_
      refine AllReadyH.cons rfl (fun K hK=>?_) AllReadyH.nil
      go_simp
      refine hK.out _ _ (HS _ (tADGS hgrow)) (fun hHeld=>?_)
      clear hK K
      refine wpAnyH_done (by kernel_rfl) ?_ _
      refine NoPanic.normal ?_
      go_split_ands
      clear HS
      go_wp2
      subst hn
      subst hxs
      obtain ⟨L,S⟩:=((uH HL).turn ((Turn.alloc nO W0 _).sD)).sent (m:=⟨2,n,node,k,serial,ver,ag,pres,val⟩) hown1 hgrow (hat.imp id (fun e=>by rw [e];simp)) hlt
      go_end0
      exact ⟨rfl,_,_,(by rw [uH HTB,if_neg (by have:=uH hcc;omega),if_neg (uH hvv)];exact L),(((uH HST).trans (Step.of_turn ((Turn.alloc nO W0 _).sD))).trans S)⟩
end
end Go.Proofs.YtpdkojgepagbnaaGreatDoor
