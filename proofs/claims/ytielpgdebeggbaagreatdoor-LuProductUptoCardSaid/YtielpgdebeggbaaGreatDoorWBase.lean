/- What this claim leans on. -/
import Derived.Test.YtielpgdebeggbaaGreatDoorWPre
import Derived.LaidMore
import Derived.OpenShut
import Derived.ProofKit
set_option linter.unusedVariables false
set_option linter.unusedSimpArgs false
namespace Go.Proofs.YtielpgdebeggbaaGreatDoor
open Go Go.RowKit
open Go.ChangeShapes Go.WideShapes Go.ChangeAt
set_option maxHeartbeats 16000000
section
variable {H:Type}{enc:TypeId×Value->H}{P:Program}
theorem oF {f:Func}{s:ChangeSpec}{apart n c m:Bool}{W W':World}{args:Array Value}{v:Value}{ds gs:List (DataW H)}{a pa pv:List MemPlace}
  (hW:DataW.Whole enc P f.params.toList s.vars apart W args.toList ds gs a)
  (k:∀(b:Nat) (sp:Nat->Bool) (hd:Bool),DataW.TrodAll enc P W' b sp hd f.resultTypes.toList (v.resultList f.resultTypes.size) (s.fn H (ds++gs)).results [])
  (d:∀sp:Nat->Bool,(∀p ∈ a,sp p.block=true)->DataW.TrodAll enc P W' 0 sp true f.params.toList args.toList (s.fn H (ds++gs)).args pa)
  (g:∀sp:Nat->Bool,(∀p ∈ a,sp p.block=true)->DataW.TrodVars enc P W' sp s.vars (s.fn H (ds++gs)).vars pv)
  (h:a=pa++pv) (hb:Below W.heap.size W W')
  (y:∀(j:Nat) (t:TypeId) (r:Value),f.resultTypes[j]?=some t->(v.resultList f.resultTypes.size)[j]?=some r->Value.okWide P W' .any 0 t r):
  s.post enc P f apart n c m W args v W':=by
 have u:∀p ∈ a,p.block<W.heap.size:=λp hp=>hW.lt p hp;have i:∀p ∈ a,(λb=>decide (b<W.heap.size)) p.block=true:=λp hp=>by simpa using u p hp
 refine⟨ds,gs,a,[],pa,pv,hW,k _ _ _,d _ i,g _ i,World.keptBut_mono (λp hp=>⟨hp,?_⟩) (hb.frame (· ∈ a)),λ_=>?_⟩
 ·rw [h,XW] at hp;exact Or.inr hp
 ·obtain⟨_,_,_,_,_,hz,hn⟩:=hW;refine⟨y,_,_,([]++pa)++pv,⟨[]++pa,pv,trodAll_append (d _ (λ_ _=>rfl)) (k _ _ _),g _ (λ_ _=>rfl),rfl,?_,?_⟩,?_⟩
  ·intro b off hp;have o:MemPlace.cell b off ∈ a:=by rw [h];simpa using hp
   rw [hb.frozen (u _ o)];exact hz b off o
  ·intro ha;have:=hn ha;rw [h] at this;simpa using this
  ·intro p hp _;rw [h];simpa using hp
end
