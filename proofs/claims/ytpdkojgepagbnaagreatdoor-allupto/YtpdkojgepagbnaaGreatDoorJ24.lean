/-
  Keys and values: what the program's and the document's tests on texts answer.
  Which messages are right: the program by its table, the document by its cases; the same answer.
  Which messages are right, by the document's cases.
-/
import Derived.Test.YtpdkojgepagbnaaGreatDoorJ02
import Derived.Lib.Strings
namespace Go.Proofs.YtpdkojgepagbnaaGreatDoor
set_option maxRecDepth 100000
set_option maxHeartbeats 8000000
section
open Go.RowKit
def letB (c:UInt8):Bool:=decide (97≤c.toNat) && decide (c.toNat≤122)
def KeyTab (w:World):Prop:=w.cell? ⟨1,0,none⟩=some (.int .u64 0)∧w.cell? ⟨1,1,none⟩=some (.int .u64 576460743713488896)∧w.cell? ⟨1,2,none⟩=some (.int .u64 0)∧w.cell? ⟨1,3,none⟩=some (.int .u64 0)
theorem bits0:(bits BinOp.and IntKind.u64 0 1 == 1)=false:=by decide
theorem bits1:∀ r:Nat,r<64→(bits BinOp.and IntKind.u64 (576460743713488896 / 2 ^ r) 1 == 1)=(decide (33≤r) && decide (r≤58)):=by decide +kernel
theorem keyByte_any (c:UInt8) (w:World) (h:KeyTab w) :
    Calls Tryz.prog 121 #[.int .u8 (c.toNat:Int)] w fun e w'=>e= .returned (.bool (letB c))∧w'=w:=by
 obtain ⟨k0,k1,k2,k3⟩:=h
 have hc:c.toNat<256:=c.toNat_lt
 generalize hn:c.toNat=n at *
 have HN:=hide hn
 clear hn
 have hlo:(0:Int)≤(n:Int):=by omega
 have hhi:(n:Int)≤255:=by omega
 by_cases q0:n<64
 ·have e1:((n:Int) / 64)=0:=by omega
  go_enter Tryz.func121,Tryz.ntmps121
  go_wp2
  go_ret
  exact ⟨ret_bool (by rw [bits0];simp [letB,uH HN];omega),rfl⟩
 ·by_cases q1:n<128
  ·have e1:((n:Int) / 64)=1:=by omega
   have e2:((n:Int) % 64)=(n:Int) - 64:=by omega
   go_enter Tryz.func121,Tryz.ntmps121
   go_wp2
   go_ret
   exact ⟨ret_bool (by rw [bits1 (n - 64) (by omega),letB,uH HN];congr 1 <;> (apply decide_eq_decide.2;omega)),rfl⟩
  ·by_cases q2:n<192
   ·have e1:((n:Int) / 64)=2:=by omega
    go_enter Tryz.func121,Tryz.ntmps121
    go_wp2
    go_ret
    exact ⟨ret_bool (by rw [bits0];simp [letB,uH HN];omega),rfl⟩
   ·have e1:((n:Int) / 64)=3:=by omega
    go_enter Tryz.func121,Tryz.ntmps121
    go_wp2
    go_ret
    exact ⟨ret_bool (by rw [bits0];simp [letB,uH HN];omega),rfl⟩
def keyB (s:ByteArray):Bool:=Nums.inB (s.size:Int) 1 4 && s.data.toList.all letB
theorem keyB_len {s:ByteArray} (h:Nums.inB (s.size:Int) 1 4=false):keyB s=false:=by simp [keyB,h]
theorem keyB_all {s:ByteArray} (h:Nums.inB (s.size:Int) 1 4=true) (ha:∀ j (hj:j<s.size),letB s[j]=true):keyB s=true:=by
  rw [keyB,h,Bool.true_and,List.all_eq_true]
  intro x hx
  obtain ⟨j,hj,rfl⟩:=List.mem_iff_getElem.1 hx
  have hj':j<s.size:=by simpa using hj
  exact ha j hj'
theorem keyB_one {s:ByteArray} {j:Nat} (hj:j<s.size) (h:letB s[j]=false):keyB s=false:=by
  have:s.data.toList.all letB=false:=by
    rw [List.all_eq_false]
    refine ⟨s.data.toList[j]'(by simpa using hj),List.getElem_mem _,?_⟩
    have e:s.data.toList[j]'(by simpa using hj)=s[j]:=rfl
    rw [e,h];simp
  simp [keyB,this]
theorem isKey_any (s:ByteArray) (w:World) (hs:s.size≤maxLen) (h:KeyTab w) :
    Calls Tryz.prog 100 #[.string s] w fun e w'=>e= .returned (.bool (keyB s))∧w'=w:=by
 unfold maxLen at hs
 have HT:=hide h
 clear h
 cases hin:Nums.inB (s.size:Int) 1 4 with
 | false =>
   have HI:=hide (keyB_len hin)
   go_enter Tryz.func100,Tryz.ntmps100
   go_wp2_with (go_at_call 74;refine (within_any _ _ _ _).mono ?_;rintro e w' ⟨rfl,rfl⟩)
   go_ret
   exact ⟨ret_bool (uH HI).symm,rfl⟩
 | true =>
   have h14:=Nums.inB_iff.1 hin
   have HIN:=hide hin
   go_enter Tryz.func100,Tryz.ntmps100
   go_wp2_with (go_at_call 74;refine (within_any _ _ _ _).mono ?_;rintro e w' ⟨rfl,rfl⟩)
   clear hin
   go_loop [3,10] (fun _ i=>∃ r:Nat,r≤s.size∧i= .int .i64 r∧Hid (∀ j (hj:j<s.size),j<r→letB s[j]=true)) (fun _ i=>s.size - (intOf i).toNat)
   case atStart=>exact ⟨0,Nat.zero_le _,rfl,fun j _ hj=>by omega⟩
   case round =>
     obtain ⟨r,hr,rfl,HA⟩:=hrel
     by_cases hlt:r<s.size
     ·have hlt':(r:Int)<(s.size:Int):=by omega
      go_wp2_with fail
      refine (keyByte_any s[r] _ (uH HT)).mono ?_
      rintro e w' ⟨rfl,rfl⟩
      cases hl:letB s[r] with
      | true =>
        have HL:=hide hl
        clear hl
        go_wp2
        refine ⟨⟨r+1,by omega,by go_num,?_⟩,by simp [intOf];omega⟩
        intro j hj hjr
        by_cases e:j=r
        ·subst e;exact uH HL
        ·exact uH HA j hj (by omega)
      | false =>
        have HL:=hide hl
        clear hl
        go_wp2
        go_ret
        exact ⟨ret_bool (keyB_one hlt (uH HL)).symm,rfl⟩
     ·go_wp2
      go_ret
      exact ⟨ret_bool (keyB_all (uH HIN) fun j hj=>uH HA j hj (by omega)).symm,rfl⟩
theorem letB_of {c:UInt8} (h1:¬ (c.toNat:Int)<97) (h2:¬ 122<(c.toNat:Int)):letB c=true:=by simp [letB];omega
theorem letB_lo {c:UInt8} (h1:(c.toNat:Int)<97):letB c=false:=by simp [letB];omega
theorem letB_hi {c:UInt8} (h1:122<(c.toNat:Int)):letB c=false:=by simp [letB];omega
theorem key_any (s:ByteArray) (w:World) (hs:s.size≤maxLen) :
    Calls Tryz.prog 70 #[.string s] w fun e w'=>e= .returned (.bool (keyB s))∧w'=w:=by
 unfold maxLen at hs
 go_enter Tryz.func70,Tryz.ntmps70
 go_wp2
 go_loop [3] (fun i=>∃ r:Nat,r≤s.size∧i= .int .i64 r∧Hid (∀ j (hj:j<s.size),j<r→letB s[j]=true)) (fun i=>s.size - (intOf i).toNat)
 case atStart=>exact ⟨0,Nat.zero_le _,rfl,fun j _ hj=>by omega⟩
 case round =>
   obtain ⟨r,hr,rfl,HA⟩:=hrel
   by_cases hlt:r<s.size
   ·by_cases c1:(s[r].toNat:Int)<97
    ·have HL:=hide (letB_lo c1)
     go_wp2
     go_ret
     exact ⟨ret_bool (keyB_one hlt (uH HL)).symm,rfl⟩
    ·by_cases c2:122<(s[r].toNat:Int)
     ·have HL:=hide (letB_hi c2)
      go_wp2
      go_ret
      exact ⟨ret_bool (keyB_one hlt (uH HL)).symm,rfl⟩
     ·have HL:=hide (letB_of c1 c2)
      go_wp2
      refine ⟨⟨r+1,by omega,by go_num,?_⟩,by simp [intOf];omega⟩
      intro j hj hjr
      by_cases e:j=r
      ·subst e;exact uH HL
      ·exact uH HA j hj (by omega)
   ·have HK:Hid (keyB s=(decide (1≤(s.size:Int)) && decide ((s.size:Int)≤4))):=by
      show _=_
      cases hin:Nums.inB (s.size:Int) 1 4 with
      | true=>rw [keyB_all hin fun j hj=>uH HA j hj (by omega)];exact hin.symm
      | false=>rw [keyB_len hin];exact hin.symm
    by_cases l1:1≤(s.size:Int)
    ·go_wp2
     go_ret
     exact ⟨ret_bool (by rw [uH HK];simp;omega),rfl⟩
    ·go_wp2
     go_ret
     exact ⟨ret_bool (by rw [uH HK];simp;omega),rfl⟩
def valB (s:ByteArray):Bool:=decide ((s.size:Int)≤16)
theorem isValue_any (s:ByteArray) (w:World) :
    Calls Tryz.prog 101 #[.string s] w fun e w'=>e= .returned (.bool (valB s))∧w'=w:=by
 go_enter Tryz.func101,Tryz.ntmps101
 go_wp2
 go_ret
 exact ⟨rfl,rfl⟩
structure Msg where
  kind:Int
  frm:Int
  to:Int
  key:ByteArray
  serial:Int
  version:Int
  age:Int
  present:Int
  value:ByteArray
def Msg.cells (m:Msg):Array Value:=#[.int .i64 m.kind,.int .i64 m.frm,.int .i64 m.to,.string m.key,.int .i64 m.serial,.int .i64 m.version,.int .i64 m.age,.int .i64 m.present,.string m.value]
def loV (k:Int):Int:=if k=1 then -1 else 0
def hiV (k:Int):Int:=if k=4 then 0 else 2147483647
def hiA (k:Int):Int:=if k=2∨k=3 then 281474976710655 else 0
def hiP (k:Int):Int:=if k=2 then 1 else 0
def soundB (m:Msg):Bool :=
  Nums.inB m.kind 1 4 && Nums.inB m.frm 0 255 && Nums.inB m.to 0 255 && Nums.inB m.serial 0 4294967295 && Nums.inB m.version (loV m.kind) (hiV m.kind) && Nums.inB m.age 0 (hiA m.kind) && Nums.inB m.present 0 (hiP m.kind) &&
    keyB m.key && valB m.value && ((m.present == 1) || m.value.toList.isEmpty)
def KindTab (w:World):Prop:=∀ k:Nat,1≤k→k≤4→w.cell? ⟨0,k*4,none⟩=some (.int .i64 (loV k))∧w.cell? ⟨0,k*4+1,none⟩=some (.int .i64 (hiV k)) ∧
  w.cell? ⟨0,k*4+2,none⟩=some (.int .i64 (hiA k))∧w.cell? ⟨0,k*4+3,none⟩=some (.int .i64 (hiP k))
theorem KindTab.later {w w':World} (h:KindTab w) (hb:Below w.heap.size w w'):KindTab w':=fun k h1 h2=>by
  obtain ⟨a,b,c,d⟩:=h k h1 h2
  exact ⟨cell_later hb a,cell_later hb b,cell_later hb c,cell_later hb d⟩
theorem KeyTab.later {w w':World} (h:KeyTab w) (hb:Below w.heap.size w w'):KeyTab w':=by
  obtain ⟨a,b,c,d⟩:=h
  exact ⟨cell_later hb a,cell_later hb b,cell_later hb c,cell_later hb d⟩
theorem below_alloc1' (w:World) (o:Obj):Below w.heap.size w (w.alloc o):=(Below.refl _ _).alloc (Nat.le_refl _) _
theorem right_kind (m:Msg) (k:Nat) (lo hi ma mp:Int) (w:World) (hkk:m.kind=k) (hk:Nums.inB k 1 4=true) (hkey:m.key.size≤maxLen)
    (t0:w.cell? ⟨0,k*4,none⟩=some (.int .i64 lo)) (t1:w.cell? ⟨0,k*4+1,none⟩=some (.int .i64 hi)) (t2:w.cell? ⟨0,k*4+2,none⟩=some (.int .i64 ma)) (t3:w.cell? ⟨0,k*4+3,none⟩=some (.int .i64 mp))
    (hS:soundB m=(Nums.inB m.frm 0 255 && Nums.inB m.to 0 255 && Nums.inB m.serial 0 4294967295 && Nums.inB m.version lo hi && Nums.inB m.age 0 ma && Nums.inB m.present 0 mp && keyB m.key && valB m.value && ((m.present == 1) || m.value.toList.isEmpty))) (hK:KeyTab w) :
    Calls Tryz.prog 91 #[.agg #[.int .i64 m.kind,.int .i64 m.frm,.int .i64 m.to,.string m.key,.int .i64 m.serial,.int .i64 m.version,.int .i64 m.age,.int .i64 m.present,.string m.value]] w fun e w'=>e= .returned (.bool (soundB m))∧Below w.heap.size w w':=by
 have h14:=Nums.inB_iff.1 hk
 have HKT:Hid (∀ o1 o2,KeyTab ((w.alloc o1).alloc o2)):=fun o1 o2=>(hK.later (below_alloc1' w o1)).later (below_alloc1' _ o2)
 have u0:=fun o=>cell_later (below_alloc1' w o) t0
 have u1:=fun o=>cell_later (below_alloc1' w o) t1
 have u2:=fun o=>cell_later (below_alloc1' w o) t2
 have u3:=fun o=>cell_later (below_alloc1' w o) t3
 clear t0 t1 t2 t3
 cases hf:Nums.inB m.frm 0 255 with
 | false =>
   have HC:Hid (soundB m=false):=by show _=_;rw [hS,hf];simp
   clear hS
   go_enter Tryz.func91,Tryz.ntmps91
   go_wp2_with (first|(go_at_call 74;refine (within_any _ _ _ _).mono ?_;rintro e w' ⟨rfl,rfl⟩)|(go_at_call 100;refine (isKey_any _ _ hkey (uH HKT _ _)).mono ?_;rintro e w' ⟨rfl,rfl⟩)|(go_at_call 101;refine (isValue_any _ _).mono ?_;rintro e w' ⟨rfl,rfl⟩))
   go_ret
   exact ⟨ret_bool (uH HC).symm,((Below.refl _ _).alloc (Nat.le_refl _) _).alloc (by simp) _⟩
 | true =>
 cases ht:Nums.inB m.to 0 255 with
 | false =>
   have HC:Hid (soundB m=false):=by show _=_;rw [hS,ht];simp
   clear hS
   go_enter Tryz.func91,Tryz.ntmps91
   go_wp2_with (first|(go_at_call 74;refine (within_any _ _ _ _).mono ?_;rintro e w' ⟨rfl,rfl⟩)|(go_at_call 100;refine (isKey_any _ _ hkey (uH HKT _ _)).mono ?_;rintro e w' ⟨rfl,rfl⟩)|(go_at_call 101;refine (isValue_any _ _).mono ?_;rintro e w' ⟨rfl,rfl⟩))
   go_ret
   exact ⟨ret_bool (uH HC).symm,((Below.refl _ _).alloc (Nat.le_refl _) _).alloc (by simp) _⟩
 | true =>
 cases hs:Nums.inB m.serial 0 4294967295 with
 | false =>
   have HC:Hid (soundB m=false):=by show _=_;rw [hS,hs];simp
   clear hS
   go_enter Tryz.func91,Tryz.ntmps91
   go_wp2_with (first|(go_at_call 74;refine (within_any _ _ _ _).mono ?_;rintro e w' ⟨rfl,rfl⟩)|(go_at_call 100;refine (isKey_any _ _ hkey (uH HKT _ _)).mono ?_;rintro e w' ⟨rfl,rfl⟩)|(go_at_call 101;refine (isValue_any _ _).mono ?_;rintro e w' ⟨rfl,rfl⟩))
   go_ret
   exact ⟨ret_bool (uH HC).symm,((Below.refl _ _).alloc (Nat.le_refl _) _).alloc (by simp) _⟩
 | true =>
 cases hv:Nums.inB m.version lo hi with
 | false =>
   have HC:Hid (soundB m=false):=by show _=_;rw [hS,hv];simp
   clear hS
   go_enter Tryz.func91,Tryz.ntmps91
   go_wp2_with (first|(go_at_call 74;refine (within_any _ _ _ _).mono ?_;rintro e w' ⟨rfl,rfl⟩)|(go_at_call 100;refine (isKey_any _ _ hkey (uH HKT _ _)).mono ?_;rintro e w' ⟨rfl,rfl⟩)|(go_at_call 101;refine (isValue_any _ _).mono ?_;rintro e w' ⟨rfl,rfl⟩))
   go_ret
   exact ⟨ret_bool (uH HC).symm,((Below.refl _ _).alloc (Nat.le_refl _) _).alloc (by simp) _⟩
 | true =>
 cases ha:Nums.inB m.age 0 ma with
 | false =>
   have HC:Hid (soundB m=false):=by show _=_;rw [hS,ha];simp
   clear hS
   go_enter Tryz.func91,Tryz.ntmps91
   go_wp2_with (first|(go_at_call 74;refine (within_any _ _ _ _).mono ?_;rintro e w' ⟨rfl,rfl⟩)|(go_at_call 100;refine (isKey_any _ _ hkey (uH HKT _ _)).mono ?_;rintro e w' ⟨rfl,rfl⟩)|(go_at_call 101;refine (isValue_any _ _).mono ?_;rintro e w' ⟨rfl,rfl⟩))
   go_ret
   exact ⟨ret_bool (uH HC).symm,((Below.refl _ _).alloc (Nat.le_refl _) _).alloc (by simp) _⟩
 | true =>
 cases hp:Nums.inB m.present 0 mp with
 | false =>
   have HC:Hid (soundB m=false):=by show _=_;rw [hS,hp];simp
   clear hS
   go_enter Tryz.func91,Tryz.ntmps91
   go_wp2_with (first|(go_at_call 74;refine (within_any _ _ _ _).mono ?_;rintro e w' ⟨rfl,rfl⟩)|(go_at_call 100;refine (isKey_any _ _ hkey (uH HKT _ _)).mono ?_;rintro e w' ⟨rfl,rfl⟩)|(go_at_call 101;refine (isValue_any _ _).mono ?_;rintro e w' ⟨rfl,rfl⟩))
   go_ret
   exact ⟨ret_bool (uH HC).symm,((Below.refl _ _).alloc (Nat.le_refl _) _).alloc (by simp) _⟩
 | true =>
 cases hky:keyB m.key with
 | false =>
   have HC:Hid (soundB m=false):=by show _=_;rw [hS,hky];simp
   clear hS
   go_enter Tryz.func91,Tryz.ntmps91
   go_wp2_with (first|(go_at_call 74;refine (within_any _ _ _ _).mono ?_;rintro e w' ⟨rfl,rfl⟩)|(go_at_call 100;refine (isKey_any _ _ hkey (uH HKT _ _)).mono ?_;rintro e w' ⟨rfl,rfl⟩)|(go_at_call 101;refine (isValue_any _ _).mono ?_;rintro e w' ⟨rfl,rfl⟩))
   go_ret
   exact ⟨ret_bool (uH HC).symm,((Below.refl _ _).alloc (Nat.le_refl _) _).alloc (by simp) _⟩
 | true =>
 cases hvl:valB m.value with
 | false =>
   have HC:Hid (soundB m=false):=by show _=_;rw [hS,hvl];simp
   clear hS
   go_enter Tryz.func91,Tryz.ntmps91
   go_wp2_with (first|(go_at_call 74;refine (within_any _ _ _ _).mono ?_;rintro e w' ⟨rfl,rfl⟩)|(go_at_call 100;refine (isKey_any _ _ hkey (uH HKT _ _)).mono ?_;rintro e w' ⟨rfl,rfl⟩)|(go_at_call 101;refine (isValue_any _ _).mono ?_;rintro e w' ⟨rfl,rfl⟩))
   go_ret
   exact ⟨ret_bool (uH HC).symm,((Below.refl _ _).alloc (Nat.le_refl _) _).alloc (by simp) _⟩
 | true =>
 have HC:Hid (soundB m=((m.present == 1) || m.value.toList.isEmpty)):=by show _=_;rw [hS,hf,ht,hs,hv,ha,hp,hky,hvl];simp
 clear hS
 cases h1:(m.present == 1) with
 | true =>
   go_enter Tryz.func91,Tryz.ntmps91
   go_wp2_with (first|(go_at_call 74;refine (within_any _ _ _ _).mono ?_;rintro e w' ⟨rfl,rfl⟩)|(go_at_call 100;refine (isKey_any _ _ hkey (uH HKT _ _)).mono ?_;rintro e w' ⟨rfl,rfl⟩)|(go_at_call 101;refine (isValue_any _ _).mono ?_;rintro e w' ⟨rfl,rfl⟩))
   go_ret
   exact ⟨ret_bool (by rw [uH HC,h1];rfl),((Below.refl _ _).alloc (Nat.le_refl _) _).alloc (by simp) _⟩
 | false =>
   go_enter Tryz.func91,Tryz.ntmps91
   go_wp2_with (first|(go_at_call 74;refine (within_any _ _ _ _).mono ?_;rintro e w' ⟨rfl,rfl⟩)|(go_at_call 100;refine (isKey_any _ _ hkey (uH HKT _ _)).mono ?_;rintro e w' ⟨rfl,rfl⟩)|(go_at_call 101;refine (isValue_any _ _).mono ?_;rintro e w' ⟨rfl,rfl⟩))
   go_ret
   exact ⟨ret_bool (by rw [uH HC,h1];rfl),((Below.refl _ _).alloc (Nat.le_refl _) _).alloc (by simp) _⟩
theorem sound_kind {m:Msg} (h:Nums.inB m.kind 1 4=false):soundB m=false:=by simp [soundB,h]
theorem wireRight_any (m:Msg) (w:World) (hkey:m.key.size≤maxLen) (hT:KindTab w) (hK:KeyTab w) :
    Calls Tryz.prog 91 #[.agg #[.int .i64 m.kind,.int .i64 m.frm,.int .i64 m.to,.string m.key,.int .i64 m.serial,.int .i64 m.version,.int .i64 m.age,.int .i64 m.present,.string m.value]] w fun e w'=>e= .returned (.bool (soundB m))∧Below w.heap.size w w':=by
 cases hk:Nums.inB m.kind 1 4 with
 | false =>
   have HC:=hide (sound_kind hk)
   go_enter Tryz.func91,Tryz.ntmps91
   go_wp2_with (go_at_call 74;refine (within_any _ _ _ _).mono ?_;rintro e w' ⟨rfl,rfl⟩)
   go_ret
   exact ⟨ret_bool (uH HC).symm,below_alloc1' _ _⟩
 | true =>
   have h14:=Nums.inB_iff.1 hk
   obtain ⟨k,hkk⟩:=Int.eq_ofNat_of_zero_le (show 0≤m.kind by omega)
   obtain ⟨t0,t1,t2,t3⟩:=hT k (by omega) (by omega)
   exact right_kind m k _ _ _ _ w hkk (by rw [← hkk];exact hk) hkey t0 t1 t2 t3 (by rw [soundB,hk,hkk];simp) hK
def caseB (m:Msg):Bool :=
  if m.kind=1 then (m.age == 0) && (m.present == 0) else if m.kind=2 then decide (0≤m.version) else if m.kind=3 then decide (0≤m.version) && (m.present == 0) else (m.version == 0) && (m.age == 0) && (m.present == 0)
def refB (m:Msg):Bool :=
  Nums.inB m.kind 1 4 && Nums.inB m.frm 0 255 && Nums.inB m.to 0 255 && Nums.inB m.serial 0 4294967295 && Nums.inB m.version (-1) 2147483647 && Nums.inB m.age 0 281474976710655 && Nums.inB m.present 0 1 && keyB m.key &&
    !decide (16<(m.value.size:Int)) && !((m.present == 0) && !m.value.toList.isEmpty) && caseB m
theorem refB_of {m:Msg} (ha:Nums.inB m.kind 1 4=true) (hb:Nums.inB m.frm 0 255=true) (hc:Nums.inB m.to 0 255=true) (hd:Nums.inB m.serial 0 4294967295=true) (he:Nums.inB m.version (-1) 2147483647=true)
    (hf:Nums.inB m.age 0 281474976710655=true) (hg:Nums.inB m.present 0 1=true) (hk:keyB m.key=true):refB m=(!decide (16<(m.value.size:Int)) && !((m.present == 0) && !m.value.toList.isEmpty) && caseB m):=by
 rw [refB,ha,hb,hc,hd,he,hf,hg,hk];simp
theorem sound_any (m:Msg) (w:World) (hkey:m.key.size≤maxLen) :
    Calls Tryz.prog 58 #[.agg #[.int .i64 m.kind,.int .i64 m.frm,.int .i64 m.to,.string m.key,.int .i64 m.serial,.int .i64 m.version,.int .i64 m.age,.int .i64 m.present,.string m.value]] w fun e w'=>e= .returned (.bool (refB m))∧Below w.heap.size w w':=by
 cases ha:Nums.inB m.kind 1 4 with
 | false =>
   have HC:Hid (refB m=false):=by show _=_;rw [refB,ha];simp
   go_enter Tryz.func58,Tryz.ntmps58
   go_wp2_with (first|(go_at_call 26;refine (in_any _ _ _ _).mono ?_;rintro e w' ⟨rfl,rfl⟩)|(go_at_call 70;refine (key_any _ _ hkey).mono ?_;rintro e w' ⟨rfl,rfl⟩))
   go_ret
   exact ⟨ret_bool (uH HC).symm,below_alloc1' _ _⟩
 | true =>
 cases hb:Nums.inB m.frm 0 255 with
 | false =>
   have HC:Hid (refB m=false):=by show _=_;rw [refB,hb];simp
   go_enter Tryz.func58,Tryz.ntmps58
   go_wp2_with (first|(go_at_call 26;refine (in_any _ _ _ _).mono ?_;rintro e w' ⟨rfl,rfl⟩)|(go_at_call 70;refine (key_any _ _ hkey).mono ?_;rintro e w' ⟨rfl,rfl⟩))
   go_ret
   exact ⟨ret_bool (uH HC).symm,below_alloc1' _ _⟩
 | true =>
 cases hc:Nums.inB m.to 0 255 with
 | false =>
   have HC:Hid (refB m=false):=by show _=_;rw [refB,hc];simp
   go_enter Tryz.func58,Tryz.ntmps58
   go_wp2_with (first|(go_at_call 26;refine (in_any _ _ _ _).mono ?_;rintro e w' ⟨rfl,rfl⟩)|(go_at_call 70;refine (key_any _ _ hkey).mono ?_;rintro e w' ⟨rfl,rfl⟩))
   go_ret
   exact ⟨ret_bool (uH HC).symm,below_alloc1' _ _⟩
 | true =>
 cases hd:Nums.inB m.serial 0 4294967295 with
 | false =>
   have HC:Hid (refB m=false):=by show _=_;rw [refB,hd];simp
   go_enter Tryz.func58,Tryz.ntmps58
   go_wp2_with (first|(go_at_call 26;refine (in_any _ _ _ _).mono ?_;rintro e w' ⟨rfl,rfl⟩)|(go_at_call 70;refine (key_any _ _ hkey).mono ?_;rintro e w' ⟨rfl,rfl⟩))
   go_ret
   exact ⟨ret_bool (uH HC).symm,below_alloc1' _ _⟩
 | true =>
 cases he:Nums.inB m.version (-1) 2147483647 with
 | false =>
   have HC:Hid (refB m=false):=by show _=_;rw [refB,he];simp
   go_enter Tryz.func58,Tryz.ntmps58
   go_wp2_with (first|(go_at_call 26;refine (in_any _ _ _ _).mono ?_;rintro e w' ⟨rfl,rfl⟩)|(go_at_call 70;refine (key_any _ _ hkey).mono ?_;rintro e w' ⟨rfl,rfl⟩))
   go_ret
   exact ⟨ret_bool (uH HC).symm,below_alloc1' _ _⟩
 | true =>
 cases hf:Nums.inB m.age 0 281474976710655 with
 | false =>
   have HC:Hid (refB m=false):=by show _=_;rw [refB,hf];simp
   go_enter Tryz.func58,Tryz.ntmps58
   go_wp2_with (first|(go_at_call 26;refine (in_any _ _ _ _).mono ?_;rintro e w' ⟨rfl,rfl⟩)|(go_at_call 70;refine (key_any _ _ hkey).mono ?_;rintro e w' ⟨rfl,rfl⟩))
   go_ret
   exact ⟨ret_bool (uH HC).symm,below_alloc1' _ _⟩
 | true =>
 cases hg:Nums.inB m.present 0 1 with
 | false =>
   have HC:Hid (refB m=false):=by show _=_;rw [refB,hg];simp
   go_enter Tryz.func58,Tryz.ntmps58
   go_wp2_with (first|(go_at_call 26;refine (in_any _ _ _ _).mono ?_;rintro e w' ⟨rfl,rfl⟩)|(go_at_call 70;refine (key_any _ _ hkey).mono ?_;rintro e w' ⟨rfl,rfl⟩))
   go_ret
   exact ⟨ret_bool (uH HC).symm,below_alloc1' _ _⟩
 | true =>
 cases hk:keyB m.key with
 | false =>
   have HC:Hid (refB m=false):=by show _=_;rw [refB,hk];simp
   go_enter Tryz.func58,Tryz.ntmps58
   go_wp2_with (first|(go_at_call 26;refine (in_any _ _ _ _).mono ?_;rintro e w' ⟨rfl,rfl⟩)|(go_at_call 70;refine (key_any _ _ hkey).mono ?_;rintro e w' ⟨rfl,rfl⟩))
   go_ret
   exact ⟨ret_bool (uH HC).symm,below_alloc1' _ _⟩
 | true =>
 have hR:=refB_of ha hb hc hd he hf hg hk
 by_cases hl:16<(m.value.size:Int)
 ·have HC:Hid (refB m=false):=by show _=_;rw [hR];simp [hl]
  clear hR
  go_enter Tryz.func58,Tryz.ntmps58
  go_wp2_with (first|(go_at_call 26;refine (in_any _ _ _ _).mono ?_;rintro e w' ⟨rfl,rfl⟩)|(go_at_call 70;refine (key_any _ _ hkey).mono ?_;rintro e w' ⟨rfl,rfl⟩))
  go_ret
  exact ⟨ret_bool (uH HC).symm,below_alloc1' _ _⟩
 ·have hl':decide (16<(m.value.size:Int))=false:=by simpa using hl
  rw [hl'] at hR
  cases hp:(m.present == 0) with
  | true =>
    cases hv:m.value.toList.isEmpty with
    | false =>
      have HC:Hid (refB m=false):=by show _=_;rw [hR,hp,hv];simp
      clear hR
      go_enter Tryz.func58,Tryz.ntmps58
      go_wp2_with (first|(go_at_call 26;refine (in_any _ _ _ _).mono ?_;rintro e w' ⟨rfl,rfl⟩)|(go_at_call 70;refine (key_any _ _ hkey).mono ?_;rintro e w' ⟨rfl,rfl⟩))
      go_ret
      exact ⟨ret_bool (uH HC).symm,below_alloc1' _ _⟩
    | true =>
      have HC:Hid (refB m=caseB m):=by show _=_;rw [hR,hp,hv];simp
      clear hR
      by_cases k1:m.kind=1
      ·have HD:Hid (caseB m=((m.age == 0) && (m.present == 0))):=by show _=_;simp [caseB,k1]
       cases hag:(m.age == 0)
       ·
        go_enter Tryz.func58,Tryz.ntmps58
        go_wp2_with (first|(go_at_call 26;refine (in_any _ _ _ _).mono ?_;rintro e w' ⟨rfl,rfl⟩)|(go_at_call 70;refine (key_any _ _ hkey).mono ?_;rintro e w' ⟨rfl,rfl⟩))
        go_ret
        exact ⟨ret_bool (by rw [uH HC,uH HD,hag,hp];rfl),below_alloc1' _ _⟩
       ·
        go_enter Tryz.func58,Tryz.ntmps58
        go_wp2_with (first|(go_at_call 26;refine (in_any _ _ _ _).mono ?_;rintro e w' ⟨rfl,rfl⟩)|(go_at_call 70;refine (key_any _ _ hkey).mono ?_;rintro e w' ⟨rfl,rfl⟩))
        go_ret
        exact ⟨ret_bool (by rw [uH HC,uH HD,hag,hp];rfl),below_alloc1' _ _⟩
      ·by_cases k2:m.kind=2
       ·have HD:Hid (caseB m=decide (0≤m.version)):=by show _=_;simp [caseB,k2]
        go_enter Tryz.func58,Tryz.ntmps58
        go_wp2_with (first|(go_at_call 26;refine (in_any _ _ _ _).mono ?_;rintro e w' ⟨rfl,rfl⟩)|(go_at_call 70;refine (key_any _ _ hkey).mono ?_;rintro e w' ⟨rfl,rfl⟩))
        go_ret
        exact ⟨ret_bool (by rw [uH HC,uH HD]),below_alloc1' _ _⟩
       ·by_cases k3:m.kind=3
        ·have HD:Hid (caseB m=(decide (0≤m.version) && (m.present == 0))):=by show _=_;simp [caseB,k3]
         cases hve:decide (0≤m.version)
         ·have hve':¬ 0≤m.version:=of_decide_eq_false hve
          go_enter Tryz.func58,Tryz.ntmps58
          go_wp2_with (first|(go_at_call 26;refine (in_any _ _ _ _).mono ?_;rintro e w' ⟨rfl,rfl⟩)|(go_at_call 70;refine (key_any _ _ hkey).mono ?_;rintro e w' ⟨rfl,rfl⟩))
          go_ret
          exact ⟨ret_bool (by rw [uH HC,uH HD,hve,hp];rfl),below_alloc1' _ _⟩
         ·have hve':0≤m.version:=of_decide_eq_true hve
          go_enter Tryz.func58,Tryz.ntmps58
          go_wp2_with (first|(go_at_call 26;refine (in_any _ _ _ _).mono ?_;rintro e w' ⟨rfl,rfl⟩)|(go_at_call 70;refine (key_any _ _ hkey).mono ?_;rintro e w' ⟨rfl,rfl⟩))
          go_ret
          exact ⟨ret_bool (by rw [uH HC,uH HD,hve,hp];rfl),below_alloc1' _ _⟩
        ·have k4:m.kind=4:=by have:=Nums.inB_iff.1 ha;omega
         have HD:Hid (caseB m=((m.version == 0) && (m.age == 0) && (m.present == 0))):=by show _=_;simp [caseB,k4]
         cases hve:(m.version == 0)
         ·
          go_enter Tryz.func58,Tryz.ntmps58
          go_wp2_with (first|(go_at_call 26;refine (in_any _ _ _ _).mono ?_;rintro e w' ⟨rfl,rfl⟩)|(go_at_call 70;refine (key_any _ _ hkey).mono ?_;rintro e w' ⟨rfl,rfl⟩))
          go_ret
          exact ⟨ret_bool (by rw [uH HC,uH HD,hve];rfl),below_alloc1' _ _⟩
         ·cases hag:(m.age == 0)
          ·
           go_enter Tryz.func58,Tryz.ntmps58
           go_wp2_with (first|(go_at_call 26;refine (in_any _ _ _ _).mono ?_;rintro e w' ⟨rfl,rfl⟩)|(go_at_call 70;refine (key_any _ _ hkey).mono ?_;rintro e w' ⟨rfl,rfl⟩))
           go_ret
           exact ⟨ret_bool (by rw [uH HC,uH HD,hve,hag,hp];rfl),below_alloc1' _ _⟩
          ·
           go_enter Tryz.func58,Tryz.ntmps58
           go_wp2_with (first|(go_at_call 26;refine (in_any _ _ _ _).mono ?_;rintro e w' ⟨rfl,rfl⟩)|(go_at_call 70;refine (key_any _ _ hkey).mono ?_;rintro e w' ⟨rfl,rfl⟩))
           go_ret
           exact ⟨ret_bool (by rw [uH HC,uH HD,hve,hag,hp];rfl),below_alloc1' _ _⟩
  | false =>
    have HC:Hid (refB m=caseB m):=by show _=_;rw [hR,hp];simp
    clear hR
    by_cases k1:m.kind=1
    ·have HD:Hid (caseB m=((m.age == 0) && (m.present == 0))):=by show _=_;simp [caseB,k1]
     cases hag:(m.age == 0)
     ·
      go_enter Tryz.func58,Tryz.ntmps58
      go_wp2_with (first|(go_at_call 26;refine (in_any _ _ _ _).mono ?_;rintro e w' ⟨rfl,rfl⟩)|(go_at_call 70;refine (key_any _ _ hkey).mono ?_;rintro e w' ⟨rfl,rfl⟩))
      go_ret
      exact ⟨ret_bool (by rw [uH HC,uH HD,hag,hp];rfl),below_alloc1' _ _⟩
     ·
      go_enter Tryz.func58,Tryz.ntmps58
      go_wp2_with (first|(go_at_call 26;refine (in_any _ _ _ _).mono ?_;rintro e w' ⟨rfl,rfl⟩)|(go_at_call 70;refine (key_any _ _ hkey).mono ?_;rintro e w' ⟨rfl,rfl⟩))
      go_ret
      exact ⟨ret_bool (by rw [uH HC,uH HD,hag,hp];rfl),below_alloc1' _ _⟩
    ·by_cases k2:m.kind=2
     ·have HD:Hid (caseB m=decide (0≤m.version)):=by show _=_;simp [caseB,k2]
      go_enter Tryz.func58,Tryz.ntmps58
      go_wp2_with (first|(go_at_call 26;refine (in_any _ _ _ _).mono ?_;rintro e w' ⟨rfl,rfl⟩)|(go_at_call 70;refine (key_any _ _ hkey).mono ?_;rintro e w' ⟨rfl,rfl⟩))
      go_ret
      exact ⟨ret_bool (by rw [uH HC,uH HD]),below_alloc1' _ _⟩
     ·by_cases k3:m.kind=3
      ·have HD:Hid (caseB m=(decide (0≤m.version) && (m.present == 0))):=by show _=_;simp [caseB,k3]
       cases hve:decide (0≤m.version)
       ·have hve':¬ 0≤m.version:=of_decide_eq_false hve
        go_enter Tryz.func58,Tryz.ntmps58
        go_wp2_with (first|(go_at_call 26;refine (in_any _ _ _ _).mono ?_;rintro e w' ⟨rfl,rfl⟩)|(go_at_call 70;refine (key_any _ _ hkey).mono ?_;rintro e w' ⟨rfl,rfl⟩))
        go_ret
        exact ⟨ret_bool (by rw [uH HC,uH HD,hve,hp];rfl),below_alloc1' _ _⟩
       ·have hve':0≤m.version:=of_decide_eq_true hve
        go_enter Tryz.func58,Tryz.ntmps58
        go_wp2_with (first|(go_at_call 26;refine (in_any _ _ _ _).mono ?_;rintro e w' ⟨rfl,rfl⟩)|(go_at_call 70;refine (key_any _ _ hkey).mono ?_;rintro e w' ⟨rfl,rfl⟩))
        go_ret
        exact ⟨ret_bool (by rw [uH HC,uH HD,hve,hp];rfl),below_alloc1' _ _⟩
      ·have k4:m.kind=4:=by have:=Nums.inB_iff.1 ha;omega
       have HD:Hid (caseB m=((m.version == 0) && (m.age == 0) && (m.present == 0))):=by show _=_;simp [caseB,k4]
       cases hve:(m.version == 0)
       ·
        go_enter Tryz.func58,Tryz.ntmps58
        go_wp2_with (first|(go_at_call 26;refine (in_any _ _ _ _).mono ?_;rintro e w' ⟨rfl,rfl⟩)|(go_at_call 70;refine (key_any _ _ hkey).mono ?_;rintro e w' ⟨rfl,rfl⟩))
        go_ret
        exact ⟨ret_bool (by rw [uH HC,uH HD,hve];rfl),below_alloc1' _ _⟩
       ·cases hag:(m.age == 0)
        ·
         go_enter Tryz.func58,Tryz.ntmps58
         go_wp2_with (first|(go_at_call 26;refine (in_any _ _ _ _).mono ?_;rintro e w' ⟨rfl,rfl⟩)|(go_at_call 70;refine (key_any _ _ hkey).mono ?_;rintro e w' ⟨rfl,rfl⟩))
         go_ret
         exact ⟨ret_bool (by rw [uH HC,uH HD,hve,hag,hp];rfl),below_alloc1' _ _⟩
        ·
         go_enter Tryz.func58,Tryz.ntmps58
         go_wp2_with (first|(go_at_call 26;refine (in_any _ _ _ _).mono ?_;rintro e w' ⟨rfl,rfl⟩)|(go_at_call 70;refine (key_any _ _ hkey).mono ?_;rintro e w' ⟨rfl,rfl⟩))
         go_ret
         exact ⟨ret_bool (by rw [uH HC,uH HD,hve,hag,hp];rfl),below_alloc1' _ _⟩
theorem val_eq (m:Msg):(!decide (16<(m.value.size:Int)))=valB m.value:=by
  unfold valB
  by_cases h:16<(m.value.size:Int)
  ·rw [decide_eq_true h,decide_eq_false (by omega)];rfl
  ·rw [decide_eq_false h,decide_eq_true (by omega)];rfl
theorem bool_ext {a b:Bool} (h:a=true ↔ b=true):a=b:=Bool.eq_iff_iff.2 h
theorem sound_ref (m:Msg):refB m=soundB m:=by
  unfold refB soundB
  rw [val_eq]
  cases hk:keyB m.key
  ·simp
  cases hv:valB m.value
  ·simp
  cases hem:m.value.toList.isEmpty
  all_goals
    apply bool_ext
    simp only [caseB,loV,hiV,hiA,hiP,Bool.and_eq_true,Nums.inB_iff,Bool.and_true,Bool.not_eq_true',Bool.not_true,Bool.not_false,Bool.and_false,Bool.or_false,Bool.or_true,beq_iff_eq]
    by_cases k1:m.kind=1
    ·simp [k1];omega
    by_cases k2:m.kind=2
    ·simp [k2];omega
    by_cases k3:m.kind=3
    ·simp [k3];omega
    by_cases k4:m.kind=4
    ·simp [k4];omega
    simp [k1,k2,k3,k4];omega
end
end Go.Proofs.YtpdkojgepagbnaaGreatDoor
