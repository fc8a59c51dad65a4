/-
  Bytes behind bytes: what the program's appending functions make.
  Pack: the program's bytes of a message that is right.
  Pack: the document's bytes of a message.
-/
import Derived.Test.YtpdkojgepagbnaaGreatDoorJ38
import Derived.Lib.AppendStr
import Derived.OwnWalk
import Derived.Test.YtpdkojgepagbnaaGreatDoorJ24
namespace Go.Proofs.YtpdkojgepagbnaaGreatDoor
set_option maxRecDepth 100000
set_option maxHeartbeats 8000000
section
open Go.RowKit
theorem wInfo5:(Tryz.prog.info? 5).map (fun i=>(i.zero,i.size,i.bytes))=some (some (.int .u8 0),1,1):=by kernel_rfl
def bytesV (l:List UInt8):List Value:=l.map fun c=>Value.int .u8 (c.toNat:Int)
theorem bytesV_append (a b:List UInt8):bytesV (a ++ b)=bytesV a ++ bytesV b:=by simp [bytesV]
def WOwn (w:World) (base:Nat) (v:Value) (l:List UInt8):Prop:=w.ownsRow base 5 1 v l.length (bytesV l)∧base≤w.heap.size
theorem WOwn.alloc {w:World} {base:Nat} {v:Value} {l:List UInt8} (h:WOwn w base v l) (o:Obj):WOwn (w.alloc o) base v l:=⟨h.1.alloc o,by simp;have:=h.2;omega⟩
theorem WOwn.block {w:World} {base:Nat} {v:Value} {l:List UInt8} (h:WOwn w base v l):∀ k,v.ownBlock=some k→base≤k:=by
  intro k hk
  obtain ⟨_,hv|⟨g,cap,cur,hv,hb,_⟩⟩:=h.1
  ·rw [hv.1] at hk;cases hk
  ·rw [hv] at hk;cases hk;exact hb
theorem shr_byte (n k:Nat):((n:Int) / 2 ^ (8*k) % 256)=(((UInt8.ofNat (n / 256 ^ k % 256)).toNat:Nat):Int):=by
  have e:(2:Int) ^ (8*k)=((256 ^ k:Nat):Int):=by rw [Int.pow_mul];simp
  rw [e,UInt8.toNat_ofNat']
  omega
theorem high_step (n width k:Nat) (h:k<width):highL (n / 256 ^ (width - (k+1))) (k+1)=highL (n / 256 ^ (width - k)) k ++ [UInt8.ofNat (n / 256 ^ (width - 1 - k) % 256)]:=by
  rw [highL,show width - (k+1)=width - 1 - k by omega,Nat.div_div_eq_div_mul,← Nat.pow_succ,show (width - 1 - k).succ=width - k by omega]
theorem appendNumber_any (n width:Nat) (base:Nat) (v:Value) (l:List UInt8) (w:World) (_hn:n<9223372036854775808) (hw:width≤6) (hl:l.length≤1000) (hown:WOwn w base v l) :
    Calls Tryz.prog 92 #[v,.int .i64 n,.int .i64 width] w fun e w'=>∃ v',e= .returned v'∧WOwn w' base v' (l ++ highL n width)∧Below base w w':=by
 obtain ⟨i0,hi,hz0,hz1,hz2⟩:=info_parts wInfo5
 go_enter Tryz.func92,Tryz.ntmps92
 go_wp2
 go_loopw [0,7] (fun b i wr=>∃ (k:Nat),k≤width∧i= .int .i64 ((width:Int) - 1 - k)∧Hid (WOwn wr base b (l ++ highL (n / 256 ^ (width - k)) k))∧Below base w wr) (fun _ i _=>(intOf i+1).toNat)
 case atStart=>exact ⟨0,Nat.zero_le _,by simp,by show WOwn _ _ _ _;simpa [highL] using hown,Below.refl _ _⟩
 case round =>
   obtain ⟨k,hk,rfl,HO,hb⟩:=hrel
   by_cases hlt:k<width
   ·have h1:(0:Int)≤(width:Int) - 1 - k:=by omega
    have h2:(width:Int) - 1 - k≤5:=by omega
    have hx:=shr_byte n (width - 1 - k)
    have HS:=hide (high_step n width k hlt)
    generalize UInt8.ofNat (n / 256 ^ (width - 1 - k) % 256)=c at *
    generalize hacc:l ++ highL (n / 256 ^ (width - k)) k=acc at *
    have hal:acc.length≤1006:=by rw [← hacc,List.length_append,length_highL];omega
    have HA:=hide hacc
    clear hacc
    go_wp2_with (at_builtin;refine wpList_append_own _ rfl (.tmp 14) (.tmp 20) 119 rfl base 5 i0 (.int .u8 0) 1 1 Tryz.underlying119 hi hz0 hz1 hz2 rfl (by decide) _ _ _ rfl ((uH HO).alloc _).1 ⟨wr.heap.size,0,none⟩ 1 1 [.int .u8 (c.toNat:Int)] rfl rfl ?c1 ?c2 ?c3 ?c4 ?c5 ?_)
    case c1=>exact cell_one_new _ _ _
    case c2=>intro u hu;simp at hu;subst hu;rfl
    case c3=>unfold maxLen;omega
    case c4=>omega
    case c5=>have:=(uH HO).2;simp;omega
    ·intro v' w1 hown' hgrow _
     have hO':WOwn w1 base v' (acc ++ [c]):=by
       refine ⟨?_,?_⟩
       ·rw [List.length_append,bytesV_append];exact hown'
       ·have:=(uH HO).2;have:=hgrow.size;simp at this;omega
     have hb':Below base w w1:=(hb.alloc (uH HO).2 _).grown hgrow (by have:=(uH HO).2;simp;omega) (uH HO).block
     have HO':=hide hO'
     clear hO' hown' hgrow hb
     go_wp2
     go_roundw
     case rel =>
       refine ⟨k+1,by omega,by go_num,?_,hb'⟩
       show WOwn _ _ _ _
       rw [uH HS,← List.append_assoc,uH HA]
       exact uH HO'
     case measure=>simp [intOf];omega
   ·go_wp2
    go_ret
    refine ⟨_,rfl,?_,hb⟩
    have e:k=width:=by omega
    subst e
    have:=uH HO
    rw [Nat.sub_self,Nat.pow_zero,Nat.div_one] at this
    exact this
theorem appendCounted_any (s:ByteArray) (base:Nat) (v:Value) (l:List UInt8) (w:World) (hs:s.size≤16) (hl:l.length≤1000) (hown:WOwn w base v l) :
    Calls Tryz.prog 93 #[v,.string s] w fun e w'=>∃ v',e= .returned v'∧WOwn w' base v' (l ++ UInt8.ofNat s.size :: s.data.toList)∧Below base w w':=by
 obtain ⟨i0,hi,hz0,hz1,hz2⟩:=info_parts wInfo5
 obtain ⟨c,hc⟩:∃ c:UInt8,c=UInt8.ofNat s.size:=⟨_,rfl⟩
 have hx:(s.size:Int)=(c.toNat:Int):=by rw [hc,UInt8.toNat_ofNat'];omega
 have HO:=hide hown
 have HC:=hide hc
 clear hown hc
 go_enter Tryz.func93,Tryz.ntmps93
 go_wp2_with (at_builtin;refine wpList_append_own _ rfl (.tmp 5) (.tmp 9) 119 rfl base 5 i0 (.int .u8 0) 1 1 Tryz.underlying119 hi hz0 hz1 hz2 rfl (by decide) _ _ _ rfl ((uH HO).alloc _).1 ⟨w.heap.size,0,none⟩ 1 1 [.int .u8 (c.toNat:Int)] rfl rfl ?c1 ?c2 ?c3 ?c4 ?c5 ?_)
 case c1=>exact cell_one_new _ _ _
 case c2=>intro u hu;simp at hu;subst hu;rfl
 case c3=>unfold maxLen;omega
 case c4=>omega
 case c5=>have:=(uH HO).2;simp;omega
 ·intro v' w1 hown' hgrow _
  have hO':WOwn w1 base v' (l ++ [c]):=by
    refine ⟨?_,?_⟩
    ·rw [List.length_append,bytesV_append];exact hown'
    ·have:=(uH HO).2;have:=hgrow.size;simp at this;omega
  have hb':Below base w w1:=((Below.refl _ _).alloc (uH HO).2 _).grown hgrow (by have:=(uH HO).2;simp;omega) (uH HO).block
  have HO':=hide hO'
  clear hO' hown' hgrow hx
  have hl1:(l ++ [c]).length≤1001:=by simp;omega
  generalize hacc:l ++ [c]=acc at *
  have HA:=hide hacc
  clear hacc
  go_wp2_with (at_builtin;refine Go.Lib.wpList_append_own_string _ rfl (.tmp 11) (.tmp 12) 119 9 rfl base 5 i0 Tryz.underlying119 Tryz.underlying9 hi hz0 hz1 hz2 _ _ _ rfl (uH HO').1 s rfl ?d3 ?d4 ?d5 ?_)
  case d3=>unfold maxLen;omega
  case d4=>omega
  case d5=>exact (uH HO').2
  ·intro v2 w2 hown2 hgrow2 _
   have hO2:WOwn w2 base v2 (acc ++ s.data.toList):=by
     refine ⟨?_,?_⟩
     ·rw [List.length_append,bytesV_append]
      have e:s.data.toList.length=s.size:=by simp
      rw [e]
      exact hown2
     ·have:=(uH HO').2;have:=hgrow2.size;omega
   have hb2:Below base w w2:=hb'.grown hgrow2 (uH HO').2 (uH HO').block
   clear hown2 hgrow2 hb'
   have HO2:=hide hO2
   clear hO2
   go_wp2
   go_ret
   refine ⟨_,rfl,?_,hb2⟩
   have:=uH HO2
   rw [← uH HA,uH HC,List.append_assoc] at this
   exact this
def u8 (x:Int):UInt8:=UInt8.ofNat x.toNat
theorem u8_is {x:Int} (h0:0≤x) (h1:x≤255):(((u8 x).toNat:Nat):Int)=x:=by rw [u8,UInt8.toNat_ofNat'];omega
def packL (m:Msg):List UInt8 :=
  [u8 m.kind,u8 m.frm,u8 m.to] ++ highL m.serial.toNat 4 ++ highL (m.version+1).toNat 4 ++ highL m.age.toNat 6 ++ [u8 m.present] ++ UInt8.ofNat m.key.size :: m.key.data.toList ++ UInt8.ofNat m.value.size :: m.value.data.toList
theorem sound_parts {m:Msg} (h:soundB m=true):1≤m.kind∧m.kind≤4∧0≤m.frm∧m.frm≤255∧0≤m.to∧m.to≤255∧0≤m.serial∧m.serial≤4294967295∧-1≤m.version∧m.version≤2147483647∧0≤m.age∧m.age≤281474976710655 ∧
    0≤m.present∧m.present≤1∧m.key.size≤4∧m.value.size≤16:=by
 rw [← sound_ref] at h
 simp only [refB,Bool.and_eq_true,Nums.inB_iff,keyB] at h
 obtain ⟨⟨⟨⟨⟨⟨⟨⟨⟨⟨a,b⟩,c⟩,d⟩,e⟩,f⟩,g⟩,k⟩,v⟩,_⟩,_⟩:=h
 have hv:(m.value.size:Int)≤16:=by
   rw [val_eq,valB] at v
   exact of_decide_eq_true v
 omega
theorem appendInt_any (x:Int) (width:Nat) (base:Nat) (v:Value) (l:List UInt8) (w:World) (h0:0≤x) (hn:x<9223372036854775808) (hw:width≤6) (hl:l.length≤1000) (hown:WOwn w base v l) :
    Calls Tryz.prog 92 #[v,.int .i64 x,.int .i64 width] w fun e w'=>∃ v',e= .returned v'∧WOwn w' base v' (l ++ highL x.toNat width)∧Below base w w':=by
 obtain ⟨n,rfl⟩:=Int.eq_ofNat_of_zero_le h0
 exact appendNumber_any n width base v l w (by omega) hw hl hown
structure MsgAt (w:World) (b:Nat) (m:Msg):Prop where
  c0:w.cell? ⟨b,0,none⟩=some (.int .i64 m.kind)
  c1:w.cell? ⟨b,1,none⟩=some (.int .i64 m.frm)
  c2:w.cell? ⟨b,2,none⟩=some (.int .i64 m.to)
  c3:w.cell? ⟨b,3,none⟩=some (.string m.key)
  c4:w.cell? ⟨b,4,none⟩=some (.int .i64 m.serial)
  c5:w.cell? ⟨b,5,none⟩=some (.int .i64 m.version)
  c6:w.cell? ⟨b,6,none⟩=some (.int .i64 m.age)
  c7:w.cell? ⟨b,7,none⟩=some (.int .i64 m.present)
  c8:w.cell? ⟨b,8,none⟩=some (.string m.value)
theorem MsgAt.of_heap {w:World} {b:Nat} {m:Msg} {t:TypeId} {f:Nat × Nat} (h:w.heap[b]?=some (.cells m.cells t f)):MsgAt w b m:=by
  constructor
  all_goals (simp only [World.cell?,h];rfl)
theorem MsgAt.later {w w':World} {b B:Nat} {m:Msg} (h:MsgAt w b m) (hb:Below B w w') (hB:b<B):MsgAt w' b m:=by
  constructor
  all_goals (rw [hb.cell (by simpa using hB)])
  ·exact h.c0
  ·exact h.c1
  ·exact h.c2
  ·exact h.c3
  ·exact h.c4
  ·exact h.c5
  ·exact h.c6
  ·exact h.c7
  ·exact h.c8
theorem msgAt_new (w:World) (m:Msg) (t:TypeId):MsgAt (w.alloc (.cells m.cells t)) w.heap.size m:=by
  constructor
  all_goals (rw [World.cell?_alloc_new];rfl)
theorem own_lit (w:World) (l:List UInt8) (hl:l.length≤1000):WOwn (w.alloc (.cells (bytesV l).toArray 5)) w.heap.size (.slice (some ⟨w.heap.size,0,none⟩) l.length l.length) l:=by
  refine ⟨?_,by simp⟩
  have:=World.ownsRow_lit (e:=5) (size:=1) (base:=w.heap.size) w (bytesV l).toArray l.length (Nat.le_refl _) (by unfold maxLen;omega) (by simp [bytesV])
  simpa using this
theorem own_conv {w:World} {base:Nat} {v:Value} {l:List UInt8} (h:WOwn w base v l) (hl:0<l.length) :
    ∃ cap g,v= .slice (some ⟨g,0,none⟩) l.length cap∧Sem.run Tryz.prog (convert 119 9 (.slice (some ⟨g,0,none⟩) l.length cap)) w= .ok (.string ⟨l.toArray⟩) w:=by
 obtain ⟨⟨hxl,hv|⟨g,cap,cur,hv,_,hcur,hn,_,hsz,htake⟩⟩,_⟩:=h
 ·omega
 ·refine ⟨cap,g,hv,?_⟩
  refine run_convert_bytes_back _ 119 9 5 ⟨g,0,none⟩ cap l Tryz.underlying119 Tryz.underlying5 Tryz.underlying9 (fun j hj=>?_)
  rw [Go.WideShapes.add_plain,Nat.zero_add]
  have e:cur[j]?=some (.int .u8 (l[j].toNat:Int)):=by
    have h1:(bytesV l)[j]?=some (.int .u8 (l[j].toNat:Int)):=by simp [bytesV,hj]
    rw [← htake,List.getElem?_take_of_lt (by omega)] at h1
    simpa using h1
  simp [World.cell?,hcur,e]
theorem wirePack_yes (m:Msg) (w:World) (hS:soundB m=true) (hT:KindTab w) (hK:KeyTab w) :
    Calls Tryz.prog 57 #[.agg #[.int .i64 m.kind,.int .i64 m.frm,.int .i64 m.to,.string m.key,.int .i64 m.serial,.int .i64 m.version,.int .i64 m.age,.int .i64 m.present,.string m.value]] w fun e w'=>e= .returned (.tuple #[.string ⟨(packL m).toArray⟩,.int .i64 0])∧Below w.heap.size w w':=by
 obtain ⟨h1,h2,h3,h4,h5,h6,h7,h8,h9,h10,h11,h12,h13,h14,h15,h16⟩:=sound_parts hS
 go_enter Tryz.func57,Tryz.ntmps57
 go_wp2_with fail
 refine (wireRight_any m _ (by unfold maxLen;omega) (hT.later (below_alloc1' w _)) (hK.later (below_alloc1' w _))).mono ?_
 rintro e w1 ⟨rfl,hb1⟩
 rw [hS]
 have M1:MsgAt w1 w.heap.size m:=(msgAt_new w m _).later hb1 (by simp)
 have hb1':=(below_alloc1' w _).trans (hb1.mono (by simp))
 have hz1:w.heap.size<w1.heap.size:=by have:=hb1.size;simp at this;omega
 clear hb1 hT hK
 have HM:=hide M1
 obtain ⟨c0,c1,c2,c3,c4,c5,c6,c7,c8⟩:=M1
 have O1:=own_lit w1 [u8 m.kind,u8 m.frm,u8 m.to] (by simp)
 simp only [bytesV,List.map_cons,List.map_nil,u8_is (show 0≤m.kind by omega) (by omega),u8_is h3 h4,u8_is h5 h6] at O1
 go_wp2_with fail
 refine (appendInt_any m.serial 4 _ _ _ _ h7 (by omega) (by omega) (by simp) O1).mono ?_
 rintro e w2 ⟨v2,rfl,O2,hb2⟩
 clear O1
 have B2:Below w1.heap.size w1 w2:=(below_alloc1' w1 _).trans hb2
 clear hb2 c0 c1 c2 c3 c4 c5 c6 c7 c8
 obtain ⟨c0,c1,c2,c3,c4,c5,c6,c7,c8⟩:=(uH HM).later B2 hz1
 have H2:=hide O2
 clear O2
 go_wp2_with fail
 refine (appendInt_any _ 4 _ _ _ _ (by omega) (by omega) (by omega) (by simp [length_highL]) (uH H2)).mono ?_
 rintro e w3 ⟨v3,rfl,O3,hb3⟩
 have B3:Below w1.heap.size w1 w3:=B2.trans hb3
 clear hb3 c0 c1 c2 c3 c4 c5 c6 c7 c8
 obtain ⟨c0,c1,c2,c3,c4,c5,c6,c7,c8⟩:=(uH HM).later B3 hz1
 have H3:=hide O3
 clear O3
 go_wp2_with fail
 refine (appendInt_any m.age 6 _ _ _ _ h11 (by omega) (by omega) (by simp [length_highL]) (uH H3)).mono ?_
 rintro e w4 ⟨v4,rfl,O4,hb4⟩
 have B4:Below w1.heap.size w1 w4:=B3.trans hb4
 clear hb4 c0 c1 c2 c3 c4 c5 c6 c7 c8
 obtain ⟨c0,c1,c2,c3,c4,c5,c6,c7,c8⟩:=(uH HM).later B4 hz1
 have H4:=hide O4
 clear O4
 obtain ⟨i0,hi,hz0,hzz1,hz2⟩:=info_parts wInfo5
 have hp:=u8_is h13 (show m.present≤255 by omega)
 generalize hacc:[u8 m.kind,u8 m.frm,u8 m.to] ++ highL m.serial.toNat 4 ++ highL (m.version+1).toNat 4 ++ highL m.age.toNat 6=acc at *
 have hal:acc.length=17:=by rw [← hacc];simp [length_highL]
 have HA:=hide hacc
 clear hacc
 go_wp2_with (at_builtin;refine wpList_append_own _ rfl (.tmp 31) (.tmp 35) 119 rfl w1.heap.size 5 i0 (.int .u8 0) 1 1 Tryz.underlying119 hi hz0 hzz1 hz2 rfl (by decide) _ _ _ rfl ((uH H4).alloc _).1 ⟨w4.heap.size,0,none⟩ 1 1 [.int .u8 m.present] rfl rfl ?c1 ?c2 ?c3 ?c4 ?c5 ?_)
 case c1=>exact cell_one_new _ _ _
 case c2=>intro u hu;simp at hu;subst hu;rfl
 case c3=>unfold maxLen;omega
 case c4=>omega
 case c5=>have:=(uH H4).2;simp;omega
 intro v5 w5 hown5 hgrow5 _
 have O5:WOwn w5 w1.heap.size v5 (acc ++ [u8 m.present]):=by
   refine ⟨?_,?_⟩
   ·rw [List.length_append,bytesV_append]
    have e:bytesV [u8 m.present]=[.int .u8 m.present]:=by simp [bytesV,hp]
    rw [e,show acc.length+[u8 m.present].length=18 by simp [hal]]
    exact hown5
   ·have:=(uH H4).2;have:=hgrow5.size;simp at this;omega
 have B5:Below w1.heap.size w1 w5:=(B4.alloc (uH H4).2 _).grown hgrow5 (by have:=(uH H4).2;simp;omega) (uH H4).block
 clear hown5 hgrow5 c0 c1 c2 c3 c4 c5 c6 c7 c8 hp
 obtain ⟨c0,c1,c2,c3,c4,c5,c6,c7,c8⟩:=(uH HM).later B5 hz1
 have H5:=hide O5
 clear O5
 go_wp2_with fail
 refine (appendCounted_any m.key _ _ _ _ (by omega) (by simp;omega) (uH H5)).mono ?_
 rintro e w6 ⟨v6,rfl,O6,hb6⟩
 have B6:Below w1.heap.size w1 w6:=B5.trans hb6
 clear hb6 c0 c1 c2 c3 c4 c5 c6 c7 c8
 obtain ⟨c0,c1,c2,c3,c4,c5,c6,c7,c8⟩:=(uH HM).later B6 hz1
 have H6:=hide O6
 clear O6
 go_wp2_with fail
 refine (appendCounted_any m.value _ _ _ _ (by omega) (by simp;omega) (uH H6)).mono ?_
 rintro e w7 ⟨v7,rfl,O7,hb7⟩
 have B7:Below w1.heap.size w1 w7:=B6.trans hb7
 clear hb7 c0 c1 c2 c3 c4 c5 c6 c7 c8 H6 H5 H4 H3 H2
 have hP:acc ++ [u8 m.present] ++ UInt8.ofNat m.key.size :: m.key.data.toList ++ UInt8.ofNat m.value.size :: m.value.data.toList=packL m:=by rw [← uH HA];rfl
 rw [hP] at O7
 have hlen:0<(packL m).length:=by rw [← hP];simp;omega
 clear hP HA
 obtain ⟨cap,g,rfl,hcv⟩:=own_conv O7 hlen
 clear O7
 go_wp2
 go_ret2
 exact ⟨rfl,hb1'.trans (B7.mono (by omega))⟩
def packS (m:Msg):ByteArray:=if soundB m then ⟨(packL m).toArray⟩ else ⟨#[]⟩
def packE (m:Msg):Int:=if soundB m then 0 else 9
theorem wirePack_no (m:Msg) (w:World) (hS:soundB m=false) (hkey:m.key.size≤maxLen) (hT:KindTab w) (hK:KeyTab w) :
    Calls Tryz.prog 57 #[.agg #[.int .i64 m.kind,.int .i64 m.frm,.int .i64 m.to,.string m.key,.int .i64 m.serial,.int .i64 m.version,.int .i64 m.age,.int .i64 m.present,.string m.value]] w fun e w'=>e= .returned (.tuple #[.string ⟨#[]⟩,.int .i64 9])∧Below w.heap.size w w':=by
 go_enter Tryz.func57,Tryz.ntmps57
 go_wp2_with fail
 refine (wireRight_any m _ hkey (hT.later (below_alloc1' w _)) (hK.later (below_alloc1' w _))).mono ?_
 rintro e w1 ⟨rfl,hb1⟩
 have hb1':=(below_alloc1' w _).trans (hb1.mono (by simp))
 clear hb1 hT hK
 rw [hS]
 go_wp2
 go_ret2
 exact ⟨rfl,hb1'⟩
theorem wirePack_any (m:Msg) (w:World) (hkey:m.key.size≤maxLen) (hT:KindTab w) (hK:KeyTab w) :
    Calls Tryz.prog 57 #[.agg #[.int .i64 m.kind,.int .i64 m.frm,.int .i64 m.to,.string m.key,.int .i64 m.serial,.int .i64 m.version,.int .i64 m.age,.int .i64 m.present,.string m.value]] w fun e w'=>e= .returned (.tuple #[.string (packS m),.int .i64 (packE m)])∧Below w.heap.size w w':=by
 cases hS:soundB m with
 | true=>rw [packS,packE,hS];exact wirePack_yes m w hS hT hK
 | false=>rw [packS,packE,hS];exact wirePack_no m w hS hkey hT hK
theorem pack_any (m:Msg) (w:World) (hkey:m.key.size≤maxLen) (hT:KindTab w) (hK:KeyTab w) :
    Calls Tryz.prog 28 #[.agg #[.int .i64 m.kind,.int .i64 m.frm,.int .i64 m.to,.string m.key,.int .i64 m.serial,.int .i64 m.version,.int .i64 m.age,.int .i64 m.present,.string m.value]] w fun e w'=>e= .returned (.tuple #[.string (packS m),.int .i64 (packE m)])∧Below w.heap.size w w':=by
 go_enter Tryz.func28,Tryz.ntmps28
 go_wp2_with fail
 refine (wirePack_any m _ hkey (hT.later (below_alloc1' w _)) (hK.later (below_alloc1' w _))).mono ?_
 rintro e w1 ⟨rfl,hb1⟩
 have hb1':=(below_alloc1' w _).trans (hb1.mono (by simp))
 clear hb1 hT hK
 go_wp2
 go_ret2
 exact ⟨rfl,hb1'⟩
theorem highInt_any (x:Int) (size:Nat) (w:World) (h0:0≤x) (hn:x<9223372036854775808) (hs:size≤6) :
    Calls Tryz.prog 59 #[.int .i64 x,.int .i64 size] w fun e w'=>e= .returned (.string ⟨(highL x.toNat size).toArray⟩)∧Below w.heap.size w w':=by
 obtain ⟨n,rfl⟩:=Int.eq_ofNat_of_zero_le h0
 exact high_any n size w (by omega) hs
theorem named (l:List UInt8) (n:Nat) (h:l.length=n):∃ s:ByteArray,(⟨l.toArray⟩:ByteArray)=s∧s.size=n:=⟨_,rfl,by rw [← h];rfl⟩
theorem ret2_str {a b:ByteArray} {n:Int} (h:a=b):Ending.returned (.tuple #[.string a,.int .i64 n])= .returned (.tuple #[.string b,.int .i64 n]):=by rw [h]
theorem pack_join (m:Msg) (s5 s2 s3 s4 s6 s7:ByteArray) (e5:(⟨[u8 m.kind,u8 m.frm,u8 m.to].toArray⟩:ByteArray)=s5) (e2:(⟨(highL m.serial.toNat 4).toArray⟩:ByteArray)=s2) (e3:(⟨(highL (m.version+1).toNat 4).toArray⟩:ByteArray)=s3)
    (e4:(⟨(highL m.age.toNat 6).toArray⟩:ByteArray)=s4) (e6:(⟨[u8 m.present,UInt8.ofNat m.key.size].toArray⟩:ByteArray)=s6) (e7:(⟨[UInt8.ofNat m.value.size].toArray⟩:ByteArray)=s7) :
    s5 ++ s2 ++ s3 ++ s4 ++ s6 ++ m.key ++ s7 ++ m.value=⟨(packL m).toArray⟩:=by
 subst e5 e2 e3 e4 e6 e7
 apply ByteArray.ext
 simp [ByteArray.data_append,packL]
theorem refPack_yes (m:Msg) (w:World) (hS:soundB m=true) :
    Calls Tryz.prog 29 #[.agg #[.int .i64 m.kind,.int .i64 m.frm,.int .i64 m.to,.string m.key,.int .i64 m.serial,.int .i64 m.version,.int .i64 m.age,.int .i64 m.present,.string m.value]] w fun e w'=>e= .returned (.tuple #[.string ⟨(packL m).toArray⟩,.int .i64 0])∧Below w.heap.size w w':=by
 obtain ⟨h1,h2,h3,h4,h5,h6,h7,h8,h9,h10,h11,h12,h13,h14,h15,h16⟩:=sound_parts hS
 go_enter Tryz.func29,Tryz.ntmps29
 go_wp2_with fail
 refine (sound_any m _ (by unfold maxLen;omega)).mono ?_
 rintro e w1 ⟨rfl,hb1⟩
 rw [sound_ref,hS]
 have M1:MsgAt w1 w.heap.size m:=(msgAt_new w m _).later hb1 (by simp)
 have hb1':=(below_alloc1' w _).trans (hb1.mono (by simp))
 have hz1:w.heap.size<w1.heap.size:=by have:=hb1.size;simp at this;omega
 clear hb1
 have HM:=hide M1
 obtain ⟨c0,c1,c2,c3,c4,c5,c6,c7,c8⟩:=M1
 go_wp2_with fail
 refine (highInt_any m.serial 4 _ h7 (by omega) (by omega)).mono ?_
 rintro e w2 ⟨rfl,B2⟩
 obtain ⟨s2,e2,n2⟩:=named (highL m.serial.toNat 4) 4 (length_highL _ _)
 rw [e2]
 have E2:=hide e2
 clear e2
 clear c0 c1 c2 c3 c4 c5 c6 c7 c8
 obtain ⟨c0,c1,c2,c3,c4,c5,c6,c7,c8⟩:=(uH HM).later B2 hz1
 go_wp2_with fail
 refine (highInt_any _ 4 _ (by omega) (by omega) (by omega)).mono ?_
 rintro e w3 ⟨rfl,hb3⟩
 obtain ⟨s3,e3,n3⟩:=named (highL (m.version+1).toNat 4) 4 (length_highL _ _)
 rw [e3]
 have E3:=hide e3
 clear e3
 have B3:Below w1.heap.size w1 w3:=B2.trans (hb3.mono B2.size)
 clear c0 c1 c2 c3 c4 c5 c6 c7 c8 hb3
 obtain ⟨c0,c1,c2,c3,c4,c5,c6,c7,c8⟩:=(uH HM).later B3 hz1
 go_wp2_with fail
 refine (highInt_any m.age 6 _ h11 (by omega) (by omega)).mono ?_
 rintro e w4 ⟨rfl,hb4⟩
 obtain ⟨s4,e4,n4⟩:=named (highL m.age.toNat 6) 6 (length_highL _ _)
 rw [e4]
 have E4:=hide e4
 clear e4
 have B4:Below w1.heap.size w1 w4:=B3.trans (hb4.mono B3.size)
 clear c0 c1 c2 c3 c4 c5 c6 c7 c8 hb4
 obtain ⟨c0,c1,c2,c3,c4,c5,c6,c7,c8⟩:=(uH HM).later B4 hz1
 have hz4:w.heap.size<w4.heap.size:=Nat.lt_of_lt_of_le hz1 B4.size
 have cv3:=conv3 w4 w4.heap.size rfl m.kind m.frm m.to (u8 m.kind) (u8 m.frm) (u8 m.to) (u8_is (by omega) (by omega)).symm (u8_is h3 h4).symm (u8_is h5 h6).symm
 have cv2:=fun o=>conv2 (w4.alloc o) (w4.heap.size+1) (by simp) m.present (m.key.size:Int) (u8 m.present) (UInt8.ofNat m.key.size) (u8_is h13 (by omega)).symm (by rw [UInt8.toNat_ofNat'];omega)
 have cv1:=fun o o'=>conv1 ((w4.alloc o).alloc o') (w4.heap.size+1+1) (by simp) (m.value.size:Int) (UInt8.ofNat m.value.size) (by rw [UInt8.toNat_ofNat'];omega)
 obtain ⟨s5,e5,n5⟩:=named [u8 m.kind,u8 m.frm,u8 m.to] 3 rfl
 have e5':(⟨#[u8 m.kind,u8 m.frm,u8 m.to]⟩:ByteArray)=s5:=e5
 rw [e5'] at cv3
 obtain ⟨s6,e6,n6⟩:=named [u8 m.present,UInt8.ofNat m.key.size] 2 rfl
 have e6':(⟨#[u8 m.present,UInt8.ofNat m.key.size]⟩:ByteArray)=s6:=e6
 simp only [e6'] at cv2
 obtain ⟨s7,e7,n7⟩:=named [UInt8.ofNat m.value.size] 1 rfl
 have e7':(⟨#[UInt8.ofNat m.value.size]⟩:ByteArray)=s7:=e7
 simp only [e7'] at cv1
 have E5:=hide e5
 have E6:=hide e6
 have E7:=hide e7
 clear e5 e5' e6 e6' e7 e7'
 have c8':∀ o1 o2 o3,(((w4.alloc o1).alloc o2).alloc o3).cell? ⟨w.heap.size,8,none⟩=some (.string m.value):=fun o1 o2 o3 =>
   cell_later (below_alloc1' _ o3) (cell_later (below_alloc1' _ o2) (cell_later (below_alloc1' w4 o1) c8))
 have hkb:m.key.size≤4:=h15
 have hvb:m.value.size≤16:=h16
 go_wp2
 go_ret2
 refine ⟨?_,hb1'.trans ((((B4.alloc B4.size _).alloc (by have:=B4.size;simp;omega) _).alloc (by have:=B4.size;simp;omega) _).mono (by omega))⟩
 exact ret2_str (pack_join m s5 s2 s3 s4 s6 s7 (uH E5) (uH E2) (uH E3) (uH E4) (uH E6) (uH E7))
theorem refPack_no (m:Msg) (w:World) (hS:soundB m=false) (hkey:m.key.size≤maxLen) :
    Calls Tryz.prog 29 #[.agg #[.int .i64 m.kind,.int .i64 m.frm,.int .i64 m.to,.string m.key,.int .i64 m.serial,.int .i64 m.version,.int .i64 m.age,.int .i64 m.present,.string m.value]] w fun e w'=>e= .returned (.tuple #[.string ⟨#[]⟩,.int .i64 9])∧Below w.heap.size w w':=by
 go_enter Tryz.func29,Tryz.ntmps29
 go_wp2_with fail
 refine (sound_any m _ hkey).mono ?_
 rintro e w1 ⟨rfl,hb1⟩
 have hb1':=(below_alloc1' w _).trans (hb1.mono (by simp))
 clear hb1
 rw [sound_ref,hS]
 go_wp2
 go_ret2
 exact ⟨rfl,hb1'⟩
theorem refPack_any (m:Msg) (w:World) (hkey:m.key.size≤maxLen) :
    Calls Tryz.prog 29 #[.agg #[.int .i64 m.kind,.int .i64 m.frm,.int .i64 m.to,.string m.key,.int .i64 m.serial,.int .i64 m.version,.int .i64 m.age,.int .i64 m.present,.string m.value]] w fun e w'=>e= .returned (.tuple #[.string (packS m),.int .i64 (packE m)])∧Below w.heap.size w w':=by
 cases hS:soundB m with
 | true=>rw [packS,packE,hS];exact refPack_yes m w hS
 | false=>rw [packS,packE,hS];exact refPack_no m w hS hkey
end
end Go.Proofs.YtpdkojgepagbnaaGreatDoor
