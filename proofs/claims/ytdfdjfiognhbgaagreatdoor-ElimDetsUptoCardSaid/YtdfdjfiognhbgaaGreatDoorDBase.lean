/- What this claim leans on. -/
import Derived.Test.YtdfdjfiognhbgaaGreatDoorDPre
import Derived.LaidMore
import Derived.OpenShut
import Derived.ProofKit
set_option linter.unusedVariables false
set_option linter.unusedSimpArgs false
namespace Go.Proofs.YtdfdjfiognhbgaaGreatDoor
open Go Go.RowKit
open Go.ChangeShapes Go.WideShapes Go.ChangeAt
set_option maxHeartbeats 16000000
section
variable {H:Type}{enc:TypeId×Value->H}{P:Program}
theorem ow {f:Func}{s:ChangeSpec}{c u d o:Bool}{W W':World}{args:Array Value}{v:Value}{ds gs:List (DataW H)}{a pa pv:List MemPlace}
  (hW:DataW.Whole enc P f.params.toList s.vars c W args.toList ds gs a)
  (n:∀(b:Nat) (sp:Nat->Bool) (hd:Bool),DataW.TrodAll enc P W' b sp hd f.resultTypes.toList (v.resultList f.resultTypes.size) (s.fn H (ds++gs)).results [])
  (g:∀sp:Nat->Bool,(∀p ∈ a,sp p.block=true)->DataW.TrodAll enc P W' 0 sp true f.params.toList args.toList (s.fn H (ds++gs)).args pa)
  (i:∀sp:Nat->Bool,(∀p ∈ a,sp p.block=true)->DataW.TrodVars enc P W' sp s.vars (s.fn H (ds++gs)).vars pv)
  (k:a=pa++pv) (hb:Below W.heap.size W W')
  (A:∀(j:Nat) (t:TypeId) (r:Value),f.resultTypes[j]?=some t->(v.resultList f.resultTypes.size)[j]?=some r->Value.okWide P W' .any 0 t r):
  s.post enc P f c u d o W args v W':=by
 have z:∀p ∈ a,p.block<W.heap.size:=λp hp=>hW.lt p hp;have m:∀p ∈ a,(λb=>decide (b<W.heap.size)) p.block=true:=λp hp=>by simpa using z p hp
 refine⟨ds,gs,a,[],pa,pv,hW,n _ _ _,g _ m,i _ m,World.keptBut_mono (λp hp=>⟨hp,?_⟩) (hb.frame (· ∈ a)),λ_=>?_⟩
 ·rw [k,yY] at hp;exact Or.inr hp
 ·obtain⟨_,_,_,_,_,hz,hn⟩:=hW;refine⟨A,_,_,([]++pa)++pv,⟨[]++pa,pv,trodAll_append (g _ (λ_ _=>rfl)) (n _ _ _),i _ (λ_ _=>rfl),rfl,?_,?_⟩,?_⟩
  ·intro b off hp;have y:MemPlace.cell b off ∈ a:=by rw [k];simpa using hp
   rw [hb.frozen (z _ y)];exact hz b off y
  ·intro ha;have:=hn ha;rw [k] at this;simpa using this
  ·intro p hp _;rw [k];simpa using hp
end
