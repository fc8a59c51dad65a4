/-
  Right, Pack, Unpack of a step whose other fields are anything.
-/
import Derived.Test.YtpdkojgepagbnaaGreatDoorJ03
import Derived.Test.YtpdkojgepagbnaaGreatDoorJ41
namespace Go.Proofs.YtpdkojgepagbnaaGreatDoor
set_option maxRecDepth 100000
set_option maxHeartbeats 8000000
section
open Go.RowKit Go.Deep
def opC (kind on a_ b_:Int) (s_ t_:ByteArray) (pa:Option Addr) (pn pc:Nat) (dr bu en wa:Int) (m:Msg):Array Value:=#[.int .i64 kind,.int .i64 on,.int .i64 a_,.int .i64 b_,.string s_,.string t_,.slice pa pn pc,.int .i64 dr,.int .i64 bu,.int .i64 en,.int .i64 wa,.int .i64 m.kind,.int .i64 m.frm,.int .i64 m.to,.string m.key,.int .i64 m.serial,.int .i64 m.version,.int .i64 m.age,.int .i64 m.present,.string m.value]
variable {on a_ b_:Int} {s_ t_:ByteArray} {pa:Option Addr} {pn pc:Nat} {dr bu en wa:Int} {m:Msg}
theorem sliceAt_lentP {w:World} {B:Nat} {zs:List Int} (h:w.heap[B]?=some (.cells (lentCells zs) 3 (0,0))):SliceAt w (some ⟨B,0,none⟩) zs :=
  fun _=>⟨B,0,rfl,fun j hj=>by rw [Nat.zero_add];exact cell_of_heap h (lent_get hj)⟩
theorem opC_cell {w wk:World} {kind:Int} {t:TypeId} (h:Below (w.heap.size+1) (w.alloc (.cells (opC kind on a_ b_ s_ t_ pa pn pc dr bu en wa m) t)) wk) (i:Nat) :
    wk.cell? ⟨w.heap.size,i,none⟩=(opC kind on a_ b_ s_ t_ pa pn pc dr bu en wa m)[i]?:=by
 rw [h.cell (by simp),World.cell?_alloc_new]
theorem plain_right (zs:List Int) (w:World) (hz:zs.length≤17592186044416) (hs:SliceAt w pa zs) :
    Calls Tryz.prog 15 #[.agg #[.int .i64 2,.int .i64 on,.int .i64 a_,.int .i64 b_,.string s_,.string t_,.slice pa zs.length pc,.int .i64 dr,.int .i64 bu,.int .i64 en,.int .i64 wa,.int .i64 m.kind,.int .i64 m.frm,.int .i64 m.to,.string m.key,.int .i64 m.serial,.int .i64 m.version,.int .i64 m.age,.int .i64 m.present,.string m.value]] w fun e w'=>e= .returned (.bool true)∧Below w.heap.size w w':=by
 have hml:zs.length≤maxLen:=by unfold maxLen;omega
 go_enter Tryz.func15,Tryz.ntmps15
 go_wp2_with fail
 refine (lent_any pa pc zs dr bu en wa _ hz (hs.below (below_alloc1 w _))).mono ?_
 rintro e w1 ⟨B,rfl,hb1,hB1,hlent⟩
 rw [World.size_alloc] at hB1
 have hBlt:B<w1.heap.size:=(Array.getElem?_eq_some_iff.1 hlent).1
 have hb01:=hb1.mono (B':=w.heap.size+1) (by simp)
 clear hb1
 have HL:=hide hlent
 clear hlent
 have hb01':Below (w.heap.size+1) (w.alloc (.cells (opC 2 on a_ b_ s_ t_ pa zs.length pc dr bu en wa m) 39)) w1:=hb01
 clear hb01
 have hsz1:w.heap.size+1≤w1.heap.size:=by have:=hb01'.size;simpa using this
 go_wp2_with fail
 refine (right_any (some ⟨B,0,none⟩) (zs.length+1) zs dr bu en wa _ hml (sliceAt_lentP (by rw [Below.heap_alloc _ _ _ hBlt];exact uH HL))).mono ?_
 rintro e w3 ⟨rfl,hb3⟩
 rw [World.size_alloc] at hb3
 have hb13:Below w1.heap.size w1 w3:=(below_alloc1 w1 _).trans (hb3.mono (by simp))
 clear hb3
 have hb03:=hb01'.trans (hb13.mono hsz1)
 have hbw3:Below w.heap.size w w3:=(below_alloc1 w _).trans (hb03.mono (by simp))
 have hs3:=hs.below hbw3
 have HL3:Hid (w3.heap[B]?=some (.cells (lentCells zs) 3 (0,0))):=by show _=_;rw [hb13.block B hBlt];exact uH HL
 have c6:w3.cell? ⟨w.heap.size,6,none⟩=some (.slice pa zs.length pc):=opC_cell hb03 6
 have c7:w3.cell? ⟨w.heap.size,7,none⟩=some (.int .i64 dr):=opC_cell hb03 7
 have c8:w3.cell? ⟨w.heap.size,8,none⟩=some (.int .i64 bu):=opC_cell hb03 8
 have c9:w3.cell? ⟨w.heap.size,9,none⟩=some (.int .i64 en):=opC_cell hb03 9
 have c10:w3.cell? ⟨w.heap.size,10,none⟩=some (.int .i64 wa):=opC_cell hb03 10
 clear HL hb13
 go_wp2_with fail
 refine (back_any pa pc zs dr bu en wa _ B hz hs3 (uH HL3)).mono ?_
 rintro e w4 ⟨rfl,hb4⟩
 have hb04:=hb03.trans (hb4.mono hB1)
 have hbw4:Below w.heap.size w w4:=hbw3.trans (hb4.mono (by omega))
 have hs4:=hs.below hbw4
 clear c6 c7 c8 c9 c10 hb4 HL3 hs3 hb03 hbw3
 have c6:w4.cell? ⟨w.heap.size,6,none⟩=some (.slice pa zs.length pc):=opC_cell hb04 6
 have c7:w4.cell? ⟨w.heap.size,7,none⟩=some (.int .i64 dr):=opC_cell hb04 7
 have c8:w4.cell? ⟨w.heap.size,8,none⟩=some (.int .i64 bu):=opC_cell hb04 8
 have c9:w4.cell? ⟨w.heap.size,9,none⟩=some (.int .i64 en):=opC_cell hb04 9
 have c10:w4.cell? ⟨w.heap.size,10,none⟩=some (.int .i64 wa):=opC_cell hb04 10
 go_wp2_with fail
 refine (refRight_any pa pc zs dr bu en wa _ hml hs4).mono ?_
 rintro e w5 ⟨rfl,hb5⟩
 have hbw5:Below w.heap.size w w5:=hbw4.trans (hb5.mono hbw4.size)
 clear c6 c7 c8 c9 c10 hb5 hb04 hs4 hbw4
 generalize errOf (confB zs dr bu en wa)=n at *
 go_wp2_with (go_at_call 13;refine (num_any _ _).mono ?_;rintro e w' ⟨rfl,rfl⟩)
 go_ret
 exact ⟨rfl,hbw5⟩
theorem plain_pack (w:World) (hkey:m.key.size≤maxLen) (hT:KindTab w) (hK:KeyTab w) :
    Calls Tryz.prog 15 #[.agg #[.int .i64 3,.int .i64 on,.int .i64 a_,.int .i64 b_,.string s_,.string t_,.slice pa pn pc,.int .i64 dr,.int .i64 bu,.int .i64 en,.int .i64 wa,.int .i64 m.kind,.int .i64 m.frm,.int .i64 m.to,.string m.key,.int .i64 m.serial,.int .i64 m.version,.int .i64 m.age,.int .i64 m.present,.string m.value]] w fun e w'=>e= .returned (.bool true)∧Below w.heap.size w w':=by
 go_enter Tryz.func15,Tryz.ntmps15
 go_wp2_with fail
 refine (pack_any m _ hkey (hT.later (below_alloc1' w _)) (hK.later (below_alloc1' w _))).mono ?_
 rintro e w1 ⟨rfl,hb1⟩
 have hb01:Below (w.heap.size+1) (w.alloc (.cells (opC 3 on a_ b_ s_ t_ pa pn pc dr bu en wa m) 39)) w1:=hb1.mono (by simp)
 have hb1':=(below_alloc1' w _).trans (hb1.mono (by simp))
 clear hb1 hT hK
 have c0:w1.cell? ⟨w.heap.size,11,none⟩=some (.int .i64 m.kind):=opC_cell hb01 11
 have c1:w1.cell? ⟨w.heap.size,12,none⟩=some (.int .i64 m.frm):=opC_cell hb01 12
 have c2:w1.cell? ⟨w.heap.size,13,none⟩=some (.int .i64 m.to):=opC_cell hb01 13
 have c3:w1.cell? ⟨w.heap.size,14,none⟩=some (.string m.key):=opC_cell hb01 14
 have c4:w1.cell? ⟨w.heap.size,15,none⟩=some (.int .i64 m.serial):=opC_cell hb01 15
 have c5:w1.cell? ⟨w.heap.size,16,none⟩=some (.int .i64 m.version):=opC_cell hb01 16
 have c6:w1.cell? ⟨w.heap.size,17,none⟩=some (.int .i64 m.age):=opC_cell hb01 17
 have c7:w1.cell? ⟨w.heap.size,18,none⟩=some (.int .i64 m.present):=opC_cell hb01 18
 have c8:w1.cell? ⟨w.heap.size,19,none⟩=some (.string m.value):=opC_cell hb01 19
 go_wp2_with fail
 refine (refPack_any m _ hkey).mono ?_
 rintro e w2 ⟨rfl,hb2⟩
 have hb2':=hb1'.trans (hb2.mono hb1'.size)
 clear c0 c1 c2 c3 c4 c5 c6 c7 c8 hb2 hb01 hb1'
 generalize packS m=ps at *
 generalize packE m=pe at *
 go_wp2_with (go_at_call 13;refine (num_any _ _).mono ?_;rintro e w' ⟨rfl,rfl⟩)
 go_ret
 exact ⟨rfl,hb2'⟩
theorem plain_unpack (w:World) (hm:s_.size≤maxLen) (hT:KindTab w) (hK:KeyTab w) :
    Calls Tryz.prog 15 #[.agg #[.int .i64 4,.int .i64 on,.int .i64 a_,.int .i64 b_,.string s_,.string t_,.slice pa pn pc,.int .i64 dr,.int .i64 bu,.int .i64 en,.int .i64 wa,.int .i64 m.kind,.int .i64 m.frm,.int .i64 m.to,.string m.key,.int .i64 m.serial,.int .i64 m.version,.int .i64 m.age,.int .i64 m.present,.string m.value]] w fun e w'=>e= .returned (.bool true)∧Below w.heap.size w w':=by
 obtain ⟨mm,er,hA⟩:=answers_ex s_
 have HA:=hide hA
 clear hA
 go_enter Tryz.func15,Tryz.ntmps15
 go_wp2_with fail
 refine (unpack_any s_ mm er (uH HA) _ hm (hT.later (below_alloc1' w _)) (hK.later (below_alloc1' w _))).mono ?_
 rintro e w1 ⟨rfl,hb1⟩
 have hb01:Below (w.heap.size+1) (w.alloc (.cells (opC 4 on a_ b_ s_ t_ pa pn pc dr bu en wa m) 39)) w1:=hb1.mono (by simp)
 have hb1':=(below_alloc1' w _).trans (hb1.mono (by simp))
 have hz1:w.heap.size<w1.heap.size:=by have:=hb1.size;simp at this;omega
 clear hb1 hT hK
 have c4:w1.cell? ⟨w.heap.size,4,none⟩=some (.string s_):=opC_cell hb01 4
 simp only [Msg.cells]
 go_wp2_with fail
 refine (refUnpack_any s_ mm er (uH HA) _ hm).mono ?_
 rintro e w2 ⟨rfl,hb2⟩
 rw [World.size_alloc] at hb2
 obtain ⟨x0,x1,x2,x3,x4,x5,x6,x7,x8⟩:=(msgAt_new w1 mm 37).later hb2 (by simp)
 have hb2':Below w.heap.size w w2:=hb1'.trans (((below_alloc1' w1 _).mono hb1'.size).trans (hb2.mono (by omega)))
 have hz2:w1.heap.size<w2.heap.size:=by have:=hb2.size;simp at this;omega
 clear hb2 hb01 hb1' c4
 simp only [Msg.cells]
 go_wp2_with (go_at_call 13;refine (num_any _ _).mono ?_;rintro e w' ⟨rfl,rfl⟩)
 go_ret
 exact ⟨rfl,hb2'.alloc hb2'.size _⟩
end
end Go.Proofs.YtpdkojgepagbnaaGreatDoor
