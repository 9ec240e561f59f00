/- Short words. -/
import Derived.Lib.Hide
import Derived.KernelRfl
import Derived.Below
import Derived.WalkKit
import Derived.OrdersHeld
import Derived.Deep.RegionHeld
import Derived.RegionTactic
namespace Go.Proofs.YtghpdeciaaagnaaGreatDoor
open Go Go.RowKit
abbrev oA9:=Option Addr
theorem wtk9 {P:Program}{md:Region.Mode}{ops:Array Oper}{Q:Exit->Act->World->Prop}{S:World->Prop}{fuel:Nat}{l:Array Bool}{a:Act}{w:World}(i:Nat){o:Oper}{v:Value}(h6:∀w,S w->Sem.run P (execOp a.eval o) w=Result.ok (Next.value v) w)(hn:wpAnyH P md ops Q S fuel (l.setIfInBounds i true) (a.put o.dst v) w)(h1:ops[i]?=some o:=by simp only [List.getElem?_toArray,List.getElem?_cons_succ,List.getElem?_cons_zero];rfl)(h2:Region.noSelect ops=true:=by kernel_rfl)(h3:Region.free md ops l i=true:=by kernel_rfl)(h4:(Region.ready md ops l).contains i=true:=by kernel_rfl)(hq:∀(c:List PanicEntry) (a:Act) (w:World),Q (Exit.panic c) (a.put o.dst v) w->Q (Exit.panic c) a w:=by exact(λ_ _ _ h=>h))(h5:Region.wanted o (yielded ops a.tmps)=true:=by rfl)(hS:S w:=by with_reducible assumption):wpAnyH P md ops Q S (fuel+1) l a w:=wpAnyH_take h1 h2 h3 h4 hq (Or.inl ⟨h5,h6⟩) hS hn
theorem arc9 {P:Program}{md:Region.Mode}{ops:Array Oper}{Q:Exit->Act->World->Prop}{S:World->Prop}{fuel:Nat}{l:Array Bool}{a:Act}{w:World}{i:Nat}{o:Oper}(hk:∀K':Act->World->Prop,Shut (∀(a:Act) (w:World),S w->(S w->wpAnyH P md ops Q S fuel (l.setIfInBounds i true) a w)->K' a w)->if Region.wanted o (yielded ops a.tmps)=true then Oper.wp P o a w K' Q else K' (a.put o.dst undef) w)(h1:ops[i]?=some o:=by simp only [List.getElem?_toArray,List.getElem?_cons_succ,List.getElem?_cons_zero];rfl):AllReadyH P md ops Q S fuel l a w [i]:=AllReadyH.cons h1 hk AllReadyH.nil
theorem lh9 {p:Prop}(h:p):Hid p:=Lib.hid h
theorem up9 (W:World){P:∀w',Below W.heap.size W w'→Prop}(f:∀w' h,P w' h):Hid (∀w' h,P w' h):=Lib.hid f
theorem as9 {P:Prop}(h:P:=by with_reducible assumption):P:=h
theorem om9 {P:Prop}(h:P:=by omega):P:=h
theorem de9 {P:Prop}(h:P:=by decide):P:=h
theorem do9 {P:Prop}(h:P:=by dsimp only;omega):P:=h
theorem kr9 {P:Prop}(h:P:=by kernel_rfl):P:=h
theorem hs9 {P:Prop}(h:P:=by rw [hsz];decide):P:=h
theorem si9 {P:Prop}(h:P:=by simp):P:=h
