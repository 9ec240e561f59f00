/- What this claim leans on. -/
import Derived.Test.YtkcjgcflloldoaaGreatDoorPPre
import Derived.LaidMore
import Derived.OpenShut
import Derived.ProofKit
set_option linter.unusedVariables false
set_option linter.unusedSimpArgs false
namespace Go.Proofs.YtkcjgcflloldoaaGreatDoor
open Go Go.RowKit
open Go.ChangeShapes Go.WideShapes Go.ChangeAt
set_option maxHeartbeats 16000000
section
variable {H:Type}{enc:TypeId×Value->H}{P:Program}
theorem nm {f:Func}{s:ChangeSpec}{apart o c n:Bool}{W W':World}{args:Array Value}{v:Value}{ds gs:List (DataW H)}{a pa pv:List MemPlace}
  (hW:DataW.Whole enc P f.params.toList s.vars apart W args.toList ds gs a)
  (m:∀(b:Nat) (sp:Nat->Bool) (hd:Bool),DataW.TrodAll enc P W' b sp hd f.resultTypes.toList (v.resultList f.resultTypes.size) (s.fn H (ds++gs)).results [])
  (d:∀sp:Nat->Bool,(∀p ∈ a,sp p.block=true)->DataW.TrodAll enc P W' 0 sp true f.params.toList args.toList (s.fn H (ds++gs)).args pa)
  (g:∀sp:Nat->Bool,(∀p ∈ a,sp p.block=true)->DataW.TrodVars enc P W' sp s.vars (s.fn H (ds++gs)).vars pv)
  (i:a=pa++pv) (hb:Below W.heap.size W W')
  (z:∀(j:Nat) (t:TypeId) (r:Value),f.resultTypes[j]?=some t->(v.resultList f.resultTypes.size)[j]?=some r->Value.okWide P W' .any 0 t r):
  s.post enc P f apart o c n W args v W':=by
 have y:∀p ∈ a,p.block<W.heap.size:=λp hp=>hW.lt p hp;have k:∀p ∈ a,(λb=>decide (b<W.heap.size)) p.block=true:=λp hp=>by simpa using y p hp
 refine⟨ds,gs,a,[],pa,pv,hW,m _ _ _,d _ k,g _ k,World.keptBut_mono (λp hp=>⟨hp,?_⟩) (hb.frame (· ∈ a)),λ_=>?_⟩
 ·rw [i,yG] at hp;exact Or.inr hp
 ·obtain⟨_,_,_,_,_,hz,hn⟩:=hW;refine⟨z,_,_,([]++pa)++pv,⟨[]++pa,pv,trodAll_append (d _ (λ_ _=>rfl)) (m _ _ _),g _ (λ_ _=>rfl),rfl,?_,?_⟩,?_⟩
  ·intro b off hp;have u:MemPlace.cell b off ∈ a:=by rw [i];simpa using hp
   rw [hb.frozen (y _ u)];exact hz b off u
  ·intro ha;have:=hn ha;rw [i] at this;simpa using this
  ·intro p hp _;rw [i];simpa using hp
end
