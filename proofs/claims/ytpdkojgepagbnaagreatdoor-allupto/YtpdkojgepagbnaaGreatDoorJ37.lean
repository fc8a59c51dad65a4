/-
  Deliver of the document's tier, whatever the place.
-/
import Derived.Test.YtpdkojgepagbnaaGreatDoorJ36
namespace Go.Proofs.YtpdkojgepagbnaaGreatDoor
set_option maxRecDepth 100000
set_option maxHeartbeats 8000000
section
open Go.RowKit
open Tier (Mes Ans Conf St)
variable {own:Own} {τ:Nat} {w:World} {br:Nat} {g:RGh} {t:St}
theorem rDeliver_any (h:RLies own τ w br g t) (i:Int) (hf:Fit t) :
    Calls Tryz.prog 46 #[.pointer (some ⟨br,0,none⟩),.int .i64 i] w fun r w'=>r= .returned (.int .i64 (loseE t i))∧RLeaves own τ w br (delS t i) w':=by
 have hn:=hf.net
 unfold delS loseE
 rcases placeB_cases t i with ⟨hc,hi⟩|⟨hc,j,m,rfl,hj,hm⟩
 ·rw [if_neg (by rw [hc];decide),if_neg (by rw [hc];decide)]
  exact rDeliver_none h i hc
 ·rw [if_pos hc,if_pos hc,Int.toNat_natCast,hm]
  have hd:=hf.df j m hm
  by_cases hk:m.kind=1∧¬ 0<m.to
  ·exact rDeliver_origin h hm (by omega) hd hk.1 hk.2
  ·exact rDeliver_cache h hm (by omega) hd (by omega)
end
end Go.Proofs.YtpdkojgepagbnaaGreatDoor
