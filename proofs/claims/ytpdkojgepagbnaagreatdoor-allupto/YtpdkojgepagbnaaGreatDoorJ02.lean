/-
  What the small functions on the road of Rights answer: within bounds; from parent to parent; a whole list of parents.
  What the program's Right and the document's answer, for every configuration: the same Bool.
-/
import Derived.Test.YtpdkojgepagbnaaGreatDoorRows
import Derived.Test.YtpdkojgepagbnaaGreatDoorJ01
import Derived.WalkKit
import Derived.WalkSpells
import Derived.WalkLawsBesides
import Derived.Deep.QuietTactic
import Derived.BigQuiet
namespace Go.Proofs.YtpdkojgepagbnaaGreatDoor
set_option maxRecDepth 100000
set_option maxHeartbeats 8000000
section
open Go.RowKit
theorem hide {p:Prop} (h:p):Hid p:=h
theorem uH {p:Prop} (h:Hid p):p:=h
theorem ret_bool {a b:Bool} (h:a=b):Ending.returned (.bool a)= .returned (.bool b):=by rw [h]
theorem within_any (n lo hi:Int) (w:World) :
    Calls Tryz.prog 74 #[.int .i64 n,.int .i64 lo,.int .i64 hi] w fun e w'=>e= .returned (.bool (Nums.inB n lo hi))∧w'=w:=by
 by_cases h1:lo≤n
 ·go_enter Tryz.func74,Tryz.ntmps74
  go_wp2
  go_ret
  exact ⟨ret_bool (by simp [Nums.inB,h1]),rfl⟩
 ·go_enter Tryz.func74,Tryz.ntmps74
  go_wp2
  go_ret
  exact ⟨ret_bool (by simp [Nums.inB];omega),rfl⟩
theorem in_any (n lo hi:Int) (w:World) :
    Calls Tryz.prog 26 #[.int .i64 n,.int .i64 lo,.int .i64 hi] w fun e w'=>e= .returned (.bool (Nums.inB n lo hi))∧w'=w:=by
 by_cases h1:lo≤n
 ·go_enter Tryz.func26,Tryz.ntmps26
  go_wp2
  go_ret
  exact ⟨ret_bool (by simp [Nums.inB,h1]),rfl⟩
 ·go_enter Tryz.func26,Tryz.ntmps26
  go_wp2
  go_ret
  exact ⟨ret_bool (by simp [Nums.inB];omega),rfl⟩
def RowAt (w:World) (b off:Nat) (zs:List Int):Prop:=∀ j,j<zs.length→w.cell? ⟨b,off+j,none⟩=some (.int .i64 (zs.getD j 0))
theorem goes_any (b off cap:Nat) (zs:List Int) (k0:Nat) (w:World) (hz:zs.length≤6) (hk0:k0<zs.length) (hr:RowAt w b off zs) :
    Calls Tryz.prog 118 #[.slice (some ⟨b,off,none⟩) zs.length cap,.int .i64 k0] w fun e w'=>e= .returned (.bool (Nums.goes zs zs.length k0))∧w'=w:=by
 go_enter Tryz.func118,Tryz.ntmps118
 go_wp2
 go_loop [1,7] (fun nd i=>∃ r k:Nat,r≤zs.length∧k<zs.length∧i= .int .i64 r∧nd= .int .i64 k∧Hid (Nums.goes zs zs.length k0=Nums.goes zs (zs.length - r) k)) (fun _ i=>zs.length - (intOf i).toNat)
 case atStart=>exact ⟨0,k0,Nat.zero_le _,hk0,rfl,rfl,rfl⟩
 case round =>
   obtain ⟨r,k,hrn,hkn,rfl,rfl,HG⟩:=hrel
   by_cases hlt:r<zs.length
   ·by_cases hk:k=0
    ·subst hk
     go_wp2
     go_ret
     refine ⟨ret_bool ?_,rfl⟩
     rw [HG.out,show zs.length - r=(zs.length - r - 1)+1 by omega,Nums.goes,if_pos rfl]
    ·have hcell:=hr k hkn
     have hne:((k:Int) == 0)=false:=by simp;omega
     have hkk:(k:Int)<(zs.length:Int):=by omega
     generalize hx:zs.getD k 0=x at *
     have HX:=hide hx
     clear hx
     go_wp2_with fail
     refine (within_any _ _ _ _).mono ?_
     rintro e w' ⟨rfl,rfl⟩
     cases hin:Nums.inB x 0 ((zs.length:Int) - 1) with
     | true =>
       have h2:=Nums.inB_iff.1 hin
       have HI:=hide hin
       clear hin
       go_wp2
       refine ⟨⟨r+1,x.toNat,by omega,by omega,by go_num,by rw [Int.toNat_of_nonneg h2.1],?_⟩,by simp [intOf];omega⟩
       show Nums.goes zs zs.length k0=_
       rw [HG.out,show zs.length - r=(zs.length - (r+1))+1 by omega,Nums.goes,if_neg hk,uH HX,if_pos (uH HI)]
     | false =>
       have HI:=hide hin
       clear hin
       go_wp2
       go_ret
       refine ⟨ret_bool ?_,rfl⟩
       rw [HG.out,show zs.length - r=(zs.length - r - 1)+1 by omega,Nums.goes,if_neg hk,uH HX,uH HI]
       rfl
   ·go_wp2
    go_ret
    refine ⟨ret_bool ?_,rfl⟩
    rw [HG.out,show zs.length - r=0 by omega,Nums.goes]
theorem comes_any (b off cap:Nat) (zs:List Int) (i0:Int) (w:World) (hz:zs.length≤6) (hr:RowAt w b off zs) :
    Calls Tryz.prog 27 #[.slice (some ⟨b,off,none⟩) zs.length cap,.int .i64 i0] w fun e w'=>e= .returned (.bool (Nums.comes zs (zs.length+1) i0))∧w'=w:=by
 go_enter Tryz.func27,Tryz.ntmps27
 go_wp2
 go_loop [1,5] (fun nd i=>∃ (r:Nat) (k:Int),r≤zs.length+1∧i= .int .i64 r∧nd= .int .i64 k∧Hid (Nums.comes zs (zs.length+1) i0=Nums.comes zs (zs.length+1 - r) k)) (fun _ i=>zs.length+1 - (intOf i).toNat)
 case atStart=>exact ⟨0,i0,Nat.zero_le _,rfl,rfl,rfl⟩
 case round =>
   obtain ⟨r,k,hrn,rfl,rfl,HG⟩:=hrel
   by_cases hlt:r≤zs.length
   ·by_cases hk:k=0
    ·subst hk
     go_wp2
     go_ret
     refine ⟨ret_bool ?_,rfl⟩
     rw [HG.out,show zs.length+1 - r=(zs.length - r)+1 by omega,Nums.comes,if_pos rfl]
    ·have hne:(k == 0)=false:=by simp;omega
     by_cases hlo:k<0
     ·go_wp2
      go_ret
      refine ⟨ret_bool ?_,rfl⟩
      rw [HG.out,show zs.length+1 - r=(zs.length - r)+1 by omega,Nums.comes,if_neg hk,if_pos (.inl hlo)]
     ·by_cases hhi:(zs.length:Int)≤k
      ·go_wp2
       go_ret
       refine ⟨ret_bool ?_,rfl⟩
       rw [HG.out,show zs.length+1 - r=(zs.length - r)+1 by omega,Nums.comes,if_neg hk,if_pos (.inr hhi)]
      ·obtain ⟨n,rfl⟩:=Int.eq_ofNat_of_zero_le (show 0≤k by omega)
       have hcell:=hr n (by omega)
       have hlo':(0:Int)≤(n:Int):=by omega
       have hhi':(n:Int)<(zs.length:Int):=by omega
       generalize hx:zs.getD n 0=x at *
       have HX:=hide hx
       clear hx
       go_wp2
       refine ⟨⟨r+1,x,by omega,by go_num,rfl,?_⟩,by simp [intOf];omega⟩
       show Nums.comes zs (zs.length+1) i0=_
       rw [HG.out,show zs.length+1 - r=(zs.length+1 - (r+1))+1 by omega,Nums.comes,if_neg hk,if_neg (by omega),Int.toNat_natCast,uH HX]
   ·go_wp2
    go_ret
    refine ⟨ret_bool ?_,rfl⟩
    rw [HG.out,show zs.length+1 - r=0 by omega,Nums.comes]
theorem num_any (n:Int) (w:World):Calls Tryz.prog 13 #[.int .i64 n] w fun e w'=>e= .returned (.int .i64 n)∧w'=w:=by
  go_enter Tryz.func13,Tryz.ntmps13
  go_wp2
  go_ret
  exact ⟨rfl,rfl⟩
theorem below_alloc1 (w:World) (o:Obj):Below w.heap.size w (w.alloc o):=(Below.refl _ _).alloc (Nat.le_refl _) _
theorem RowAt.below {w w':World} {b off:Nat} {zs:List Int} (h:RowAt w b off zs) (hb:Below w.heap.size w w'):RowAt w' b off zs :=
  fun j hj=>cell_later hb (h j hj)
def SliceAt (w:World) (a:Option Addr) (zs:List Int):Prop:=0<zs.length→∃ b off,a=some ⟨b,off,none⟩∧RowAt w b off zs
theorem SliceAt.below {w w':World} {a:Option Addr} {zs:List Int} (h:SliceAt w a zs) (hb:Below w.heap.size w w'):SliceAt w' a zs:=by
  intro hp
  obtain ⟨b,off,ha,hr⟩:=h hp
  exact ⟨b,off,ha,hr.below hb⟩
def allB (p:Nat→Bool) (n:Nat):Bool:=(List.range n).all p
theorem allB_true {p:Nat→Bool} {n:Nat} (h:∀ j,j<n→p j=true):allB p n=true:=by
  unfold allB;rw [List.all_eq_true];intro x hx;exact h x (List.mem_range.1 hx)
theorem allB_false {p:Nat→Bool} {n j:Nat} (hj:j<n) (h:p j=false):allB p n=false:=by
  cases hb:allB p n with
  | false=>rfl
  | true =>
    unfold allB at hb;rw [List.all_eq_true] at hb
    have:=hb j (List.mem_range.2 hj);rw [h] at this;cases this
def parentsB (zs:List Int):Bool:=Nums.inB (zs.length:Int) 2 6 && (zs.getD 0 0 == -1) && allB (fun k=>Nums.goes zs zs.length k) zs.length
def confB (zs:List Int) (dr bu en wa:Int):Bool:=parentsB zs && Nums.inB dr 0 500000 && Nums.inB bu 1 1000000 && Nums.inB en 1 4 && Nums.inB wa 1 4
theorem parents_len {zs:List Int} (h:Nums.inB (zs.length:Int) 2 6=false):parentsB zs=false:=by simp [parentsB,h]
theorem parents_head {zs:List Int} (h:(zs.getD 0 0 == -1)=false):parentsB zs=false:=by unfold parentsB;rw [h];simp
theorem parents_all {zs:List Int} (h1:Nums.inB (zs.length:Int) 2 6=true) (h2:(zs.getD 0 0 == -1)=true):parentsB zs=allB (fun k=>Nums.goes zs zs.length k) zs.length:=by
  unfold parentsB;rw [h1,h2];rfl
theorem parents_any (a:Option Addr) (cap:Nat) (zs:List Int) (w:World) (hz:zs.length≤maxLen) (hs:SliceAt w a zs) :
    Calls Tryz.prog 90 #[.slice a zs.length cap] w fun e w'=>e= .returned (.bool (parentsB zs))∧w'=w:=by
 unfold maxLen at hz
 cases hin:Nums.inB (zs.length:Int) 2 6 with
 | false =>
   have HI:=hide hin
   go_enter Tryz.func90,Tryz.ntmps90
   go_wp2_with (go_at_call 74;refine (within_any _ _ _ _).mono ?_;rintro e w' ⟨rfl,rfl⟩)
   go_ret
   exact ⟨ret_bool (parents_len (uH HI)).symm,rfl⟩
 | true =>
   have h26:=Nums.inB_iff.1 hin
   obtain ⟨b,off,rfl,hr⟩:=hs (by omega)
   have hc0:=hr 0 (by omega)
   have hp0:(0:Int)<(zs.length:Int):=by omega
   simp only [Nat.add_zero] at hc0
   cases hhd:(zs.getD 0 0 == -1) with
   | false =>
     have HH:=hide (parents_head hhd)
     generalize zs.getD 0 0=x at *
     have hne:(x != -1)=true:=by rw [bne,hhd];rfl
     clear hhd
     go_enter Tryz.func90,Tryz.ntmps90
     go_wp2_with (go_at_call 74;refine (within_any _ _ _ _).mono ?_;rintro e w' ⟨rfl,rfl⟩)
     go_ret
     exact ⟨ret_bool (uH HH).symm,rfl⟩
   | true =>
     have HP:=hide (parents_all hin hhd)
     have hx:=beq_iff_eq.1 hhd
     rw [hx] at hc0
     clear hhd hx
     go_enter Tryz.func90,Tryz.ntmps90
     go_wp2_with (go_at_call 74;refine (within_any _ _ _ _).mono ?_;rintro e w' ⟨rfl,rfl⟩)
     go_loop [3,16] (fun _ i=>∃ r:Nat,r≤zs.length∧i= .int .i64 r∧Hid (∀ j,j<r→Nums.goes zs zs.length j=true)) (fun _ i=>zs.length - (intOf i).toNat)
     case atStart=>exact ⟨0,Nat.zero_le _,rfl,fun j hj=>by omega⟩
     case round =>
       obtain ⟨r,hrn,rfl,HA⟩:=hrel
       by_cases hlt:r<zs.length
       ·go_wp2_with fail
        refine (goes_any b off cap zs r _ (by omega) hlt hr).mono ?_
        rintro e w' ⟨rfl,rfl⟩
        cases hg:Nums.goes zs zs.length r with
        | true =>
          have HG:=hide hg
          clear hg
          go_wp2
          refine ⟨⟨r+1,by omega,by go_num,?_⟩,by simp [intOf];omega⟩
          intro j hj
          by_cases e:j=r
          ·rw [e];exact uH HG
          ·exact uH HA j (by omega)
        | false =>
          have HG:=hide hg
          clear hg
          go_wp2
          go_ret
          exact ⟨ret_bool ((allB_false hlt (uH HG)).symm.trans (uH HP).symm),rfl⟩
       ·go_wp2
        go_ret
        exact ⟨ret_bool ((allB_true fun j hj=>uH HA j (by omega)).symm.trans (uH HP).symm),rfl⟩
theorem conf_any (a:Option Addr) (cap:Nat) (zs:List Int) (dr bu en wa:Int) (w:World) (hz:zs.length≤maxLen) (hs:SliceAt w a zs) :
    Calls Tryz.prog 55 #[.agg #[.slice a zs.length cap,.int .i64 dr,.int .i64 bu,.int .i64 en,.int .i64 wa]] w fun e w'=>e= .returned (.bool (confB zs dr bu en wa))∧Below w.heap.size w w':=by
 have hs':∀ o,SliceAt (w.alloc o) a zs:=fun o=>hs.below (below_alloc1 w o)
 unfold confB
 cases hp:parentsB zs with
 | false =>
   go_enter Tryz.func55,Tryz.ntmps55
   go_wp2_with (go_at_call 90;refine (parents_any a cap zs _ hz (hs' _)).mono ?_;rintro e w' ⟨rfl,rfl⟩)
   go_ret
   exact ⟨rfl,below_alloc1 _ _⟩
 | true =>
 cases hd:Nums.inB dr 0 500000 with
 | false =>
   go_enter Tryz.func55,Tryz.ntmps55
   go_wp2_with (first|(go_at_call 90;refine (parents_any a cap zs _ hz (hs' _)).mono ?_;rintro e w' ⟨rfl,rfl⟩)|(go_at_call 74;refine (within_any _ _ _ _).mono ?_;rintro e w' ⟨rfl,rfl⟩))
   go_ret
   exact ⟨rfl,below_alloc1 _ _⟩
 | true =>
 cases hb:Nums.inB bu 1 1000000 with
 | false =>
   go_enter Tryz.func55,Tryz.ntmps55
   go_wp2_with (first|(go_at_call 90;refine (parents_any a cap zs _ hz (hs' _)).mono ?_;rintro e w' ⟨rfl,rfl⟩)|(go_at_call 74;refine (within_any _ _ _ _).mono ?_;rintro e w' ⟨rfl,rfl⟩))
   go_ret
   exact ⟨rfl,below_alloc1 _ _⟩
 | true =>
 cases he:Nums.inB en 1 4 with
 | false =>
   go_enter Tryz.func55,Tryz.ntmps55
   go_wp2_with (first|(go_at_call 90;refine (parents_any a cap zs _ hz (hs' _)).mono ?_;rintro e w' ⟨rfl,rfl⟩)|(go_at_call 74;refine (within_any _ _ _ _).mono ?_;rintro e w' ⟨rfl,rfl⟩))
   go_ret
   exact ⟨rfl,below_alloc1 _ _⟩
 | true =>
 cases hw:Nums.inB wa 1 4 with
 | false =>
   go_enter Tryz.func55,Tryz.ntmps55
   go_wp2_with (first|(go_at_call 90;refine (parents_any a cap zs _ hz (hs' _)).mono ?_;rintro e w' ⟨rfl,rfl⟩)|(go_at_call 74;refine (within_any _ _ _ _).mono ?_;rintro e w' ⟨rfl,rfl⟩))
   go_ret
   exact ⟨rfl,below_alloc1 _ _⟩
 | true =>
   go_enter Tryz.func55,Tryz.ntmps55
   go_wp2_with (first|(go_at_call 90;refine (parents_any a cap zs _ hz (hs' _)).mono ?_;rintro e w' ⟨rfl,rfl⟩)|(go_at_call 74;refine (within_any _ _ _ _).mono ?_;rintro e w' ⟨rfl,rfl⟩))
   go_ret
   exact ⟨rfl,below_alloc1 _ _⟩
def errOf (b:Bool):Int:=if b then 0 else 1
theorem right_any (a:Option Addr) (cap:Nat) (zs:List Int) (dr bu en wa:Int) (w:World) (hz:zs.length≤maxLen) (hs:SliceAt w a zs) :
    Calls Tryz.prog 22 #[.agg #[.slice a zs.length cap,.int .i64 dr,.int .i64 bu,.int .i64 en,.int .i64 wa]] w fun e w'=>e= .returned (.int .i64 (errOf (confB zs dr bu en wa)))∧Below w.heap.size w w':=by
 have hs':∀ o,SliceAt (w.alloc o) a zs:=fun o=>hs.below (below_alloc1 w o)
 go_enter Tryz.func22,Tryz.ntmps22
 go_wp2_with fail
 refine (conf_any a cap zs dr bu en wa _ hz (hs' _)).mono ?_
 rintro e w' ⟨rfl,hb⟩
 have hb':=(below_alloc1 w _).trans (hb.mono (by simp))
 clear hb
 cases hcf:confB zs dr bu en wa
 all_goals
   have HC:=hide hcf
   clear hcf
   go_wp2
   go_ret
   exact ⟨by rw [uH HC];rfl,hb'⟩
theorem goes_zero (zs:List Int) (h:0<zs.length):Nums.goes zs zs.length 0=true:=by
  rw [show zs.length=(zs.length - 1)+1 by omega,Nums.goes,if_pos rfl]
theorem errOf_true {b:Bool} (h:b=true):errOf b=0:=by rw [h];rfl
theorem errOf_false {b:Bool} (h:b=false):errOf b=1:=by rw [h];rfl
theorem ret_int {k:IntKind} {a b:Int} (h:a=b):Ending.returned (.int k a)= .returned (.int k b):=by rw [h]
theorem refRight_any (a:Option Addr) (cap:Nat) (zs:List Int) (dr bu en wa:Int) (w:World) (hz:zs.length≤maxLen) (hs:SliceAt w a zs) :
    Calls Tryz.prog 12 #[.agg #[.slice a zs.length cap,.int .i64 dr,.int .i64 bu,.int .i64 en,.int .i64 wa]] w fun e w'=>e= .returned (.int .i64 (errOf (confB zs dr bu en wa)))∧Below w.heap.size w w':=by
 unfold maxLen at hz
 have hs':∀ o,SliceAt (w.alloc o) a zs:=fun o=>hs.below (below_alloc1 w o)
 cases ha:Nums.inB (zs.length:Int) 2 6 with
 | false =>
   have HC:Hid (confB zs dr bu en wa=false):=by show _=_;simp [confB,parentsB,ha]
   go_enter Tryz.func12,Tryz.ntmps12
   go_wp2_with (first|(go_at_call 26;refine (in_any _ _ _ _).mono ?_;rintro e w' ⟨rfl,rfl⟩))
   go_ret
   exact ⟨by rw [uH HC];rfl,below_alloc1 _ _⟩
 | true =>
 cases hd:Nums.inB dr 0 500000 with
 | false =>
   have HC:Hid (confB zs dr bu en wa=false):=by show _=_;simp [confB,parentsB,hd]
   go_enter Tryz.func12,Tryz.ntmps12
   go_wp2_with (first|(go_at_call 26;refine (in_any _ _ _ _).mono ?_;rintro e w' ⟨rfl,rfl⟩))
   go_ret
   exact ⟨by rw [uH HC];rfl,below_alloc1 _ _⟩
 | true =>
 cases hb:Nums.inB bu 1 1000000 with
 | false =>
   have HC:Hid (confB zs dr bu en wa=false):=by show _=_;simp [confB,parentsB,hb]
   go_enter Tryz.func12,Tryz.ntmps12
   go_wp2_with (first|(go_at_call 26;refine (in_any _ _ _ _).mono ?_;rintro e w' ⟨rfl,rfl⟩))
   go_ret
   exact ⟨by rw [uH HC];rfl,below_alloc1 _ _⟩
 | true =>
 cases he:Nums.inB en 1 4 with
 | false =>
   have HC:Hid (confB zs dr bu en wa=false):=by show _=_;simp [confB,parentsB,he]
   go_enter Tryz.func12,Tryz.ntmps12
   go_wp2_with (first|(go_at_call 26;refine (in_any _ _ _ _).mono ?_;rintro e w' ⟨rfl,rfl⟩))
   go_ret
   exact ⟨by rw [uH HC];rfl,below_alloc1 _ _⟩
 | true =>
 cases hf:Nums.inB wa 1 4 with
 | false =>
   have HC:Hid (confB zs dr bu en wa=false):=by show _=_;simp [confB,parentsB,hf]
   go_enter Tryz.func12,Tryz.ntmps12
   go_wp2_with (first|(go_at_call 26;refine (in_any _ _ _ _).mono ?_;rintro e w' ⟨rfl,rfl⟩))
   go_ret
   exact ⟨by rw [uH HC];rfl,below_alloc1 _ _⟩
 | true =>
   have h26:=Nums.inB_iff.1 ha
   obtain ⟨b,off,rfl,hr⟩:=hs (by omega)
   have hr':∀ o,RowAt (w.alloc o) b off zs:=fun o=>hr.below (below_alloc1 w o)
   have hc0:∀ o,(w.alloc o).cell? ⟨b,off,none⟩=some (.int .i64 (zs.getD 0 0)):=fun o=>by simpa using hr' o 0 (by omega)
   have hp0:(0:Int)<(zs.length:Int):=by omega
   cases hhd:(zs.getD 0 0 == -1) with
   | false =>
     have HC:Hid (confB zs dr bu en wa=false):=by show _=_;simp only [confB,parents_head hhd,Bool.false_and]
     generalize zs.getD 0 0=x at *
     have hne:(x != -1)=true:=by rw [bne,hhd];rfl
     clear hhd
     go_enter Tryz.func12,Tryz.ntmps12
     go_wp2_with (first|(go_at_call 26;refine (in_any _ _ _ _).mono ?_;rintro e w' ⟨rfl,rfl⟩))
     go_ret
     exact ⟨ret_int (errOf_false (uH HC)).symm,below_alloc1 _ _⟩
   | true =>
     have HP:Hid (confB zs dr bu en wa=allB (fun k=>Nums.goes zs zs.length k) zs.length):=by
       show _=_
       rw [confB,parents_all ha hhd,hd,hb,he,hf];simp
     have hx:=beq_iff_eq.1 hhd
     rw [hx] at hc0
     clear hhd hx
     go_enter Tryz.func12,Tryz.ntmps12
     go_wp2_with (first|(go_at_call 26;refine (in_any _ _ _ _).mono ?_;rintro e w' ⟨rfl,rfl⟩))
     go_loop [9,10] (fun i _=>∃ r:Nat,1≤r∧r≤zs.length∧i= .int .i64 r∧Hid (∀ j,1≤j→j<r→Nums.comes zs (zs.length+1) (j:Int)=true)) (fun i _=>zs.length - (intOf i).toNat)
     case atStart=>exact ⟨1,by omega,by omega,rfl,fun j hj=>by omega⟩
     case round =>
       obtain ⟨r,hr1,hrn,rfl,HA⟩:=hrel
       by_cases hlt:r<zs.length
       ·go_wp2_with fail
        refine (comes_any b off cap zs r _ (by omega) (hr' _)).mono ?_
        rintro e w' ⟨rfl,rfl⟩
        cases hg:Nums.comes zs (zs.length+1) (r:Int) with
        | true =>
          have HG:=hide hg
          clear hg
          go_wp2
          refine ⟨⟨r+1,by omega,by omega,by go_num,?_⟩,by simp [intOf];omega⟩
          intro j hj1 hj
          by_cases e:j=r
          ·rw [e];exact uH HG
          ·exact uH HA j hj1 (by omega)
        | false =>
          have HG:=hide hg
          clear hg
          go_wp2
          go_ret
          refine ⟨ret_int (errOf_false ?_).symm,below_alloc1 _ _⟩
          rw [uH HP]
          exact allB_false hlt ((Nums.goes_is zs r hlt).trans (uH HG))
       ·go_wp2
        go_ret
        refine ⟨ret_int (errOf_true ?_).symm,below_alloc1 _ _⟩
        rw [uH HP]
        refine allB_true fun j hj=>?_
        by_cases h0:j=0
        ·rw [h0];exact goes_zero zs (by omega)
        ·exact (Nums.goes_is zs j hj).trans (uH HA j (by omega) (by omega))
end
end Go.Proofs.YtpdkojgepagbnaaGreatDoor
