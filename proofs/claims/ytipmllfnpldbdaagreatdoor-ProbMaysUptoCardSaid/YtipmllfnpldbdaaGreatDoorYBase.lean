/- What this claim leans on. -/
import Derived.Test.YtipmllfnpldbdaaGreatDoorYPre
import Derived.LaidMore
import Derived.OpenShut
import Derived.ProofKit
set_option linter.unusedVariables false
set_option linter.unusedSimpArgs false
namespace Go.Proofs.YtipmllfnpldbdaaGreatDoor
open Go Go.RowKit
open Go.ChangeShapes Go.WideShapes Go.ChangeAt
set_option maxHeartbeats 16000000
section
variable {H:Type}{enc:TypeId×Value->H}{P:Program}
theorem rz {f:Func}{s:ChangeSpec}{d z g y:Bool}{W W':World}{args:Array Value}{v:Value}{ds gs:List (DataW H)}{a pa pv:List MemPlace}
  (hW:DataW.Whole enc P f.params.toList s.vars d W args.toList ds gs a)
  (x:∀(b:Nat) (sp:Nat->Bool) (hd:Bool),DataW.TrodAll enc P W' b sp hd f.resultTypes.toList (v.resultList f.resultTypes.size) (s.fn H (ds++gs)).results [])
  (h:∀sp:Nat->Bool,(∀p ∈ a,sp p.block=true)->DataW.TrodAll enc P W' 0 sp true f.params.toList args.toList (s.fn H (ds++gs)).args pa)
  (i:∀sp:Nat->Bool,(∀p ∈ a,sp p.block=true)->DataW.TrodVars enc P W' sp s.vars (s.fn H (ds++gs)).vars pv)
  (m:a=pa++pv) (hb:Below W.heap.size W W')
  (C:∀(j:Nat) (t:TypeId) (r:Value),f.resultTypes[j]?=some t->(v.resultList f.resultTypes.size)[j]?=some r->Value.okWide P W' .any 0 t r):
  s.post enc P f d z g y W args v W':=by
 have B:∀p ∈ a,p.block<W.heap.size:=λp hp=>hW.lt p hp;have u:∀p ∈ a,(λb=>decide (b<W.heap.size)) p.block=true:=λp hp=>by simpa using B p hp
 refine⟨ds,gs,a,[],pa,pv,hW,x _ _ _,h _ u,i _ u,World.keptBut_mono (λp hp=>⟨hp,?_⟩) (hb.frame (· ∈ a)),λ_=>?_⟩
 ·rw [m,XI] at hp;exact Or.inr hp
 ·obtain⟨_,_,_,_,_,hz,hn⟩:=hW;refine⟨C,_,_,([]++pa)++pv,⟨[]++pa,pv,trodAll_append (h _ (λ_ _=>rfl)) (x _ _ _),i _ (λ_ _=>rfl),rfl,?_,?_⟩,?_⟩
  ·intro b off hp;have A:MemPlace.cell b off ∈ a:=by rw [m];simpa using hp
   rw [hb.frozen (B _ A)];exact hz b off A
  ·intro ha;have:=hn ha;rw [m] at this;simpa using this
  ·intro p hp _;rw [m];simpa using hp
end
