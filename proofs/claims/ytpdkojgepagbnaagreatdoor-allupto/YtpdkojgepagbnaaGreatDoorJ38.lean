/-
  Numbers in bytes, the high one first: what the program's and the document's functions make of them.
-/
import Derived.Test.YtpdkojgepagbnaaGreatDoorJ02
import Derived.Lib.Strings
import Derived.Laws.IdiomStrings
import Derived.Laws.BitsAllLaws
namespace Go.Proofs.YtpdkojgepagbnaaGreatDoor
set_option maxRecDepth 100000
set_option maxHeartbeats 8000000
section
open Go.RowKit
theorem ret_int1 {k:IntKind} {a b:Int} (h:a=b):Ending.returned (.int k a)= .returned (.int k b):=by rw [h]
def numL (l:List UInt8):Nat:=l.foldl (fun n c=>256*n+c.toNat) 0
theorem numL_snoc (l:List UInt8) (c:UInt8):numL (l ++ [c])=256*numL l+c.toNat:=by simp [numL,List.foldl_append]
theorem numL_from (l:List UInt8):∀ n:Nat,l.foldl (fun n c=>256*n+c.toNat) n<256 ^ l.length*(n+1):=by
  induction l with
  | nil=>intro n;simp
  | cons c l ih =>
    intro n
    have h1:=ih (256*n+c.toNat)
    have h2:=c.toNat_lt
    rw [List.foldl_cons,List.length_cons,Nat.pow_succ,Nat.mul_assoc]
    refine Nat.lt_of_lt_of_le h1 (Nat.mul_le_mul_left _ (by omega))
theorem numL_lt (l:List UInt8):numL l<256 ^ l.length:=by
  have:=numL_from l 0
  rw [Nat.zero_add,Nat.mul_one] at this
  exact this
theorem numL_take {s:ByteArray} {k:Nat} (h:k<s.size):numL (s.data.toList.take (k+1))=256*numL (s.data.toList.take k)+s[k].toNat:=by
  rw [List.take_succ_eq_append_getElem (by simpa using h),numL_snoc];rfl
theorem numL_small {l:List UInt8} {k:Nat} (h:k≤5):numL (l.take k)<1099511627776:=by
  refine Nat.lt_of_lt_of_le (numL_lt _) ?_
  have h1:(l.take k).length≤5:=by rw [List.length_take];omega
  exact Nat.le_trans (Nat.pow_le_pow_right (by decide) h1) (by decide)
theorem refNumber_any (s:ByteArray) (w:World) (hs:s.size≤6) :
    Calls Tryz.prog 61 #[.string s] w fun e w'=>e= .returned (.int .i64 (numL s.data.toList))∧w'=w:=by
 go_enter Tryz.func61,Tryz.ntmps61
 go_wp2
 go_loop [3,4] (fun n i=>∃ k:Nat,k≤s.size∧i= .int .i64 k∧n= .int .i64 (numL (s.data.toList.take k))) (fun _ i=>s.size - (intOf i).toNat)
 case atStart=>exact ⟨0,Nat.zero_le _,rfl,rfl⟩
 case round =>
   obtain ⟨k,hk,rfl,rfl⟩:=hrel
   by_cases hlt:k<s.size
   ·have HS:=hide (numL_take hlt)
    have hb:=numL_small (l:=s.data.toList) (show k≤5 by omega)
    have hc:=s[k].toNat_lt
    generalize numL (s.data.toList.take k)=x at *
    go_wp2
    exact ⟨⟨k+1,by omega,by go_num,by rw [uH HS];go_num⟩,by simp [intOf];omega⟩
   ·go_wp2
    go_ret
    exact ⟨ret_int1 (by rw [List.take_of_length_le (by simp;omega)]),rfl⟩
theorem or_i64 (x c:Nat) (hx:x<1099511627776) (hc:c<256):bits BinOp.or IntKind.i64 ((x:Int)*256) (c:Int)=((256*x+c:Nat):Int):=by
  have e:((x:Int)*256)=((x*256:Nat):Int):=by omega
  rw [e]
  show IntKind.i64.wrap ((BitVec.ofInt 64 ((x*256:Nat):Int) ||| BitVec.ofInt 64 (c:Int)).toNat:Int)=_
  rw [BitVec.toNat_or,ofInt_u64 _ (by omega),ofInt_u64 _ (by omega),nat_join 8 (x*256) c (by omega) (by omega),IntKind.wrap_i64]
  omega
theorem wireNumber_any (s:ByteArray) (w:World) (hs:s.size≤6) :
    Calls Tryz.prog 95 #[.string s] w fun e w'=>e= .returned (.int .i64 (numL s.data.toList))∧w'=w:=by
 go_enter Tryz.func95,Tryz.ntmps95
 go_wp2
 go_loop [3,4,7] (fun n _ i=>∃ k:Nat,k≤s.size∧i= .int .i64 k∧n= .int .i64 (numL (s.data.toList.take k))) (fun _ _ i=>s.size - (intOf i).toNat)
 case atStart=>exact ⟨0,Nat.zero_le _,rfl,rfl⟩
 case round =>
   obtain ⟨k,hk,rfl,rfl⟩:=hrel
   by_cases hlt:k<s.size
   ·have HS:=hide (numL_take hlt)
    have hb:=numL_small (l:=s.data.toList) (show k≤5 by omega)
    have hc:=s[k].toNat_lt
    generalize numL (s.data.toList.take k)=x at *
    have ho:=or_i64 x s[k].toNat hb hc
    go_wp2
    exact ⟨⟨k+1,by omega,by go_num,by rw [uH HS];go_num⟩,by simp [intOf];omega⟩
   ·go_wp2
    go_ret
    exact ⟨ret_int1 (by rw [List.take_of_length_le (by simp;omega)]),rfl⟩
def highL:Nat→Nat→List UInt8
  | _,0=>[]
  | n,k+1=>highL (n / 256) k ++ [UInt8.ofNat (n % 256)]
theorem length_highL (k:Nat):∀ n,(highL n k).length=k:=by
  induction k with
  | zero=>intro n;rfl
  | succ k ih=>intro n;rw [highL,List.length_append,ih];rfl
theorem high_numL (l:List UInt8):highL (numL l) l.length=l:=by
  have key:∀ (k:Nat) (l:List UInt8),l.length=k→highL (numL l) k=l:=by
    intro k
    induction k with
    | zero=>intro l h;rw [List.eq_nil_of_length_eq_zero h];rfl
    | succ k ih =>
      intro l h
      obtain ⟨l',c,rfl⟩:∃ l' c,l=l' ++ [c]:=by
        have hne:l≠[]:=by intro e;rw [e] at h;cases h
        exact ⟨l.dropLast,l.getLast hne,(List.dropLast_concat_getLast hne).symm⟩
      have hl:l'.length=k:=by simpa using h
      have hc:=c.toNat_lt
      rw [highL,numL_snoc]
      have e1:(256*numL l'+c.toNat) / 256=numL l':=by omega
      have e2:(256*numL l'+c.toNat) % 256=c.toNat:=by omega
      rw [e1,e2,ih l' hl]
      simp
  exact key _ l rfl
theorem bs_append (a b:List UInt8):(⟨a.toArray⟩:ByteArray) ++ ⟨b.toArray⟩=⟨(a ++ b).toArray⟩:=by
  apply ByteArray.ext
  simp [ByteArray.data_append]
theorem bs_cons (c:UInt8) (b:List UInt8):(⟨#[c]⟩:ByteArray) ++ ⟨b.toArray⟩=⟨(c :: b).toArray⟩:=bs_append [c] b
theorem conv_new (W:World) (g:Nat) (hg:g=W.heap.size) (l:List UInt8) :
    Sem.run Tryz.prog (convert 119 9 (.slice (some ⟨g,0,none⟩) l.length l.length)) (W.alloc (.cells (l.map fun c=>Value.int .u8 (c.toNat:Int)).toArray 5)) =
      .ok (.string ⟨l.toArray⟩) (W.alloc (.cells (l.map fun c=>Value.int .u8 (c.toNat:Int)).toArray 5)):=by
 subst hg
 refine run_convert_bytes_back _ 119 9 5 ⟨W.heap.size,0,none⟩ l.length l Tryz.underlying119 Tryz.underlying5 Tryz.underlying9 (fun j hj=>?_)
 rw [Go.WideShapes.add_plain,Nat.zero_add,World.cell?_alloc_new]
 simp [hj]
theorem conv1 (W:World) (g:Nat) (hg:g=W.heap.size) (x:Int) (c:UInt8) (hx:x=(c.toNat:Int)) :
    Sem.run Tryz.prog (convert 119 9 (.slice (some ⟨g,0,none⟩) 1 1)) (W.alloc (.cells #[.int .u8 x] 5))= .ok (.string ⟨#[c]⟩) (W.alloc (.cells #[.int .u8 x] 5)):=by
 subst hx;exact conv_new W g hg [c]
theorem conv2 (W:World) (g:Nat) (hg:g=W.heap.size) (x y:Int) (c d:UInt8) (hx:x=(c.toNat:Int)) (hy:y=(d.toNat:Int)) :
    Sem.run Tryz.prog (convert 119 9 (.slice (some ⟨g,0,none⟩) 2 2)) (W.alloc (.cells #[.int .u8 x,.int .u8 y] 5))= .ok (.string ⟨#[c,d]⟩) (W.alloc (.cells #[.int .u8 x,.int .u8 y] 5)):=by
 subst hx hy;exact conv_new W g hg [c,d]
theorem conv3 (W:World) (g:Nat) (hg:g=W.heap.size) (x y z:Int) (c d e:UInt8) (hx:x=(c.toNat:Int)) (hy:y=(d.toNat:Int)) (hz:z=(e.toNat:Int)) :
    Sem.run Tryz.prog (convert 119 9 (.slice (some ⟨g,0,none⟩) 3 3)) (W.alloc (.cells #[.int .u8 x,.int .u8 y,.int .u8 z] 5))= .ok (.string ⟨#[c,d,e]⟩) (W.alloc (.cells #[.int .u8 x,.int .u8 y,.int .u8 z] 5)):=by
 subst hx hy hz;exact conv_new W g hg [c,d,e]
theorem high_any (n size:Nat) (w:World) (hn:n<9223372036854775808) (hs:size≤6) :
    Calls Tryz.prog 59 #[.int .i64 n,.int .i64 size] w fun e w'=>e= .returned (.string ⟨(highL n size).toArray⟩)∧Below w.heap.size w w':=by
 go_enter Tryz.func59,Tryz.ntmps59
 go_wp2
 go_loopw [0,5,6] (fun q st i wr=>∃ (k m:Nat) (l:List UInt8),k≤size∧i= .int .i64 k∧q= .int .i64 m∧m<9223372036854775808∧st= .string ⟨l.toArray⟩∧l.length=k∧Below w.heap.size w wr∧Hid (highL n size=highL m (size - k) ++ l)) (fun _ _ i _=>size - (intOf i).toNat)
 case atStart=>exact ⟨0,n,[],Nat.zero_le _,rfl,rfl,hn,rfl,rfl,Below.refl _ _,by show _=_;simp⟩
 case round =>
   obtain ⟨k,m,l,hk,rfl,rfl,hm,rfl,hl,hb,HH⟩:=hrel
   by_cases hlt:k<size
   ·have hcv:=conv1 wr wr.heap.size rfl ((m:Int) % 256) (UInt8.ofNat (m % 256)) (by rw [UInt8.toNat_ofNat'];omega)
    generalize hc:UInt8.ofNat (m % 256)=c at *
    have HC:=hide hc
    clear hc
    go_wp2
    refine ⟨⟨k+1,m / 256,c :: l,by omega,by go_num,by go_num,by omega,by rw [bs_cons],by simp [hl],hb.alloc hb.size _,?_⟩,by simp [intOf];omega⟩
    show _=_
    rw [uH HH,show size - k=(size - (k+1))+1 by omega,highL,uH HC]
    simp
   ·go_wp2
    go_ret
    refine ⟨?_,hb⟩
    rw [uH HH,show size - k=0 by omega,highL,List.nil_append]
    rfl
end
end Go.Proofs.YtpdkojgepagbnaaGreatDoor
