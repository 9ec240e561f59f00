/- What this claim leans on. -/
import Derived.Test.YtlgnacmgepnamaaGreatDoorKVArgs
import Derived.Test.YtlgnacmgepnamaaGreatDoorKBunM
namespace Go.Proofs.YtlgnacmgepnamaaGreatDoor
open Go Go.RowKit
set_option maxHeartbeats 16000000
set_option linter.unusedVariables false
def zcX (D:List Nat)(a0 a:Act):Prop:=a.defers=a0.defers/\a.tmps.size=a0.tmps.size/\∀j,j ∉ D->a.tmps.getD j undef=a0.tmps.getD j undef
theorem zcX.refl (D:List Nat)(a:Act):zcX D a a:=⟨rfl,rfl,λ_ _=>rfl⟩
theorem rd_ne {a:Act}{i j:Nat}(h:j≠i)(v:Value):(a.put (some i) v).tmps.getD j undef=a.tmps.getD j undef:=by
 simp only [Act.put,Array.getD_eq_getD_getElem?]
 rw [Array.getElem?_setIfInBounds_ne (Ne.symm h)]
theorem zaL {a:Act}{i:Nat}(h:i<a.tmps.size)(v:Value):(a.put (some i) v).tmps.getD i undef=v:=by
 simp only [Act.put,Array.getD_eq_getD_getElem?]
 rw [Array.getElem?_setIfInBounds_self_of_lt h]
 rfl
theorem zgw (a:Act)(i:Nat)(v:Value):(a.put (some i) v).tmps.size=a.tmps.size:=by simp [Act.put]
theorem zcX.put {D:List Nat}{a0 a:Act}(h:zcX D a0 a){i:Nat}(hi:i ∈ D)(v:Value):zcX D a0 (a.put (some i) v):=
 ⟨h.1,by rw [zgw];exact h.2.1,λj hj=>(rd_ne (λe=>hj (by rw [e];exact hi)) v).trans (h.2.2 j hj)⟩
theorem zcX.get {D:List Nat}{a0 a:Act}(h:zcX D a0 a)(j:Nat)(hj:j ∉ D){v:Value}(hv:a0.tmps.getD j undef=v):a.tmps.getD j undef=v:=(h.2.2 j hj).trans hv
theorem zcX.lt {D:List Nat}{a0 a:Act}(h:zcX D a0 a){j:Nat}(hj:j<a0.tmps.size):j<a.tmps.size:=by rw [h.2.1];exact hj
theorem act_ext {a b:Act}(hd:a.defers=b.defers)(hs:a.tmps.size=b.tmps.size)(hg:∀j,a.tmps.getD j undef=b.tmps.getD j undef):a=b:=by
 obtain⟨at_,ad⟩:=a
 obtain⟨bt,bd⟩:=b
 simp only at hd hs hg
 subst hd
 congr 1
 refine Array.ext hs λj h1 h2=>?_
 have:=hg j
 simp only [Array.getD_eq_getD_getElem?,Array.getElem?_eq_getElem h1,Array.getElem?_eq_getElem h2] at this
 exact this
def zcO (vs:List (Nat×Value))(a:Act):Act:=vs.foldl (λa p=>a.put (some p.1) p.2) a
theorem zhe (vs:List (Nat×Value))(a:Act):(zcO vs a).tmps.size=a.tmps.size/\(zcO vs a).defers=a.defers:=by
 unfold zcO
 induction vs generalizing a with
 |nil=>exact⟨rfl,rfl⟩
 |cons p t ih=>rw [List.foldl_cons];have:=ih (a.put (some p.1) p.2);exact⟨this.1.trans (zgw _ _ _),this.2⟩
theorem zno (vs:List (Nat×Value))(a b:Act)(hs:b.tmps.size=a.tmps.size)(hv:∀p ∈ vs,a.tmps.getD p.1 undef=p.2):∀j,(zcO vs b).tmps.getD j undef=if j ∈ vs.map Prod.fst then a.tmps.getD j undef else b.tmps.getD j undef:=by
 intro j
 induction vs generalizing b with
 |nil=>rfl
 |cons p t ih=>
   show(zcO t (b.put (some p.1) p.2)).tmps.getD j undef=_
   rw [ih (b.put (some p.1) p.2) (by rw [zgw];exact hs) (λq hq=>hv q (List.mem_cons_of_mem _ hq))]
   by_cases h1:j ∈ t.map Prod.fst
   ·rw [if_pos h1,if_pos (by rw [List.map_cons];exact List.mem_cons_of_mem _ h1)]
   ·rw [if_neg h1]
    by_cases h2:j=p.1
    ·rw [if_pos (by rw [List.map_cons,h2];exact List.mem_cons_self),h2,hv p List.mem_cons_self]
     by_cases h3:p.1<b.tmps.size
     ·exact zaL h3 _
     ·have h4:=hv p List.mem_cons_self
      have h5:¬ p.1<a.tmps.size:=by rw [<-hs];exact h3
      simp only [Array.getD_eq_getD_getElem?] at h4⊢
      rw [Array.getElem?_eq_none (by omega)] at h4
      rw [Array.getElem?_eq_none (by rw [zgw];omega)]
      exact h4
    ·rw [if_neg (by rw [List.map_cons];intro h;rcases List.mem_cons.1 h with h|h;exact h2 h;exact h1 h)]
     exact rd_ne h2 _
theorem zcX.eq {D:List Nat}{a0 a:Act}(h:zcX D a0 a)(vs:List (Nat×Value))(hD:vs.map Prod.fst=D)(hv:∀p ∈ vs,a.tmps.getD p.1 undef=p.2):a=zcO vs a0:=by
 subst hD
 refine act_ext (h.1.trans (zhe vs a0).2.symm) (h.2.1.trans (zhe vs a0).1.symm) λj=>?_
 rw [zno vs a a0 h.2.1.symm hv j]
 by_cases h1:j ∈ vs.map Prod.fst
 ·rw [if_pos h1]
 ·rw [if_neg h1];exact h.2.2 j h1
section
variable {P:Program}{ops0:Array Oper}{Q:Exit->Act->World->Prop}{md:Region.Mode}{S:World->Prop}
theorem zbA {J:Act->Array Bool->Act->World->Prop}{L:Array Bool}{a0:Act}{l0:Array Bool}{w0:World}{fuel:Nat}(hd:due l0=fuel)(h0:J a0 l0 a0 w0)
  (hstep:∀(ops:Array Oper) (A0:Act) (Q':Exit->Act->World->Prop),ops=ops0->A0.tmps.size=a0.tmps.size->(∀i d,A0.tmps.getD i d=a0.tmps.getD i d)->(∀l a w,J A0 l a w->Region.ready md ops l=[]->l=L)/\∀l a w i,J A0 l a w->l≠L->i ∈ Region.ready md ops l->wpOp P ops Q' i (λa' w'=>S w'/\J A0 (l.setIfInBounds i true) a' w') a w)
  (hgoal:∀a w,J a0 L a w->wpAnyH P md ops0 Q S (due L) L a w):wpAnyH P md ops0 Q S fuel l0 a0 w0:=
 zkQ (hstep ops0 a0 Q rfl rfl (λ_ _=>rfl)).1 (hstep ops0 a0 Q rfl rfl (λ_ _=>rfl)).2 hgoal fuel l0 a0 w0 hd h0
theorem wpOp_go {ops:Array Oper}{i:Nat}{o:Oper}{K:Act->World->Prop}{a:Act}{w:World}(ho:ops[i]?=some o)(hg:o.guard=none)
  (h:∀K':Act->World->Prop,Shut (∀a w,K a w->K' a w)->Oper.wp P o a w K' Q):wpOp P ops Q i K a w:=
 wpOp_step ho λK' hK=>by
  rw [if_pos (by unfold Region.wanted;rw [hg])]
  exact h K' hK
theorem zmm {o:Oper}{K:Act->World->Prop}{a:Act}{w w':World}{v:Value}(h:(execOp a.eval o).run P w=.ok (.value v) w')(hK:K (a.put o.dst v) w'):Oper.wp P o a w K Q:=by
 unfold Oper.wp;rw [h];exact hK
theorem zdf {o:Oper}{K:Act->World->Prop}{a:Act}{w:World}{v:Value}{x:Nat}(ho:o.op=.move (.tmp x)\/o.op=.assign (.tmp x))(hx:a.tmps.getD x undef=v)(hK:K (a.put o.dst v) w):Oper.wp P o a w K Q:=by
 refine zmm (v:=v) (w':=w) ?_ hK
 unfold execOp
 rcases ho with ho|ho<;>rw [ho]<;>simp only [Act.eval,hx]<;>rfl
theorem zaX {o:Oper}{K:Act->World->Prop}{a:Act}{w:World}{v:Value}{x k:Nat}{vs:Array Value}(ho:o.op=.extract (.tmp x) k)(hx:a.tmps.getD x undef=.tuple vs)(hk:vs[k]?=some v)(hK:K (a.put o.dst v) w):Oper.wp P o a w K Q:=by
 refine zmm (v:=v) (w':=w) ?_ hK
 unfold execOp
 rw [ho]
 simp only [Act.eval,hx,Instr.extract,hk]
 rfl
end
set_option maxRecDepth 100000
set_option linter.unusedSimpArgs false
def zbQ (w:World)(z:Int)(b:Bool)(A:oA9)(n c:Nat):Prop:=b=decide (z<0)/\zak w z.natAbs A n c
theorem zbQ.below {w w':World}{z:Int}{b:Bool}{A:oA9}{n c:Nat}(h:zbQ w z b A n c)(hb:Below w.heap.size w w'):zbQ w' z b A n c:=⟨h.1,h.2.below hb⟩
theorem zbQ.to {w:World}{z z':Int}{b:Bool}{A:oA9}{n c:Nat}(e:z=z')(h:zbQ w z b A n c):zbQ w z' b A n c:=e▸h
def zjV (w:World)(z:Int)(e:Ending)(w':World):Prop:=∃(b:Bool) (A:oA9) (n c:Nat),e=.returned (.agg #[.bool b,.slice A n c])/\zbQ w' z b A n c/\Below w.heap.size w w'
theorem zjE {w:World}{A:oA9}{n g:Nat}{k:IntKind}{l:List Nat}{t:TypeId}{cs:Array Value}(h:zas w w.heap.size 1 A n (zat k l))(hk:Blk w g t cs)(hcs:∀v ∈ cs.toList,∀z,v≠.int k z):0<n->∀ad,A=some ad->ad.block≠g:=λhn ad e hg=>by
 have hl:=h.len_
 obtain⟨ad',e',_,hc⟩:=h.2 hn
 rw [e] at e'
 injection e' with e'
 subst e'
 have h0:=hc 0 (.int k (l.getD 0 0:Nat)) (zcl k _ 0 (by omega))
 have e0:ad.add 0=ad:=by unfold Addr.add;rw [if_pos rfl]
 rw [e0] at h0
 obtain⟨bk,off,pr⟩:=ad
 simp only at hg
 subst hg
 unfold Blk at hk
 cases pr with
 |none=>
   rw [show w.cell? ⟨bk,off,none⟩=cs[off]? from cell_of_row w bk off _ t (0,0) hk,<-Array.getElem?_toList] at h0
   exact hcs _ (List.mem_of_getElem? h0) _ rfl
 |some q=>simp [World.cell?,hk] at h0
theorem zia {w:World}{A:oA9}{n c x:Nat}(h:zak w x A n c){p:Addr}(hp:0<n->∀ad,A=some ad->ad.block≠p.block)(u:Value):zak (w.setCell p u) x A n c:=by
 obtain⟨hr,h1,h2⟩:=h
 refine⟨⟨hr.1,λhn=>?_⟩,h1,h2⟩
 obtain⟨ad,e,hb,hc⟩:=hr.2 hn
 refine⟨ad,e,by simpa using hb,λj v hv=>?_⟩
 refine(World.cell?_setCell_other w p _ u (λe2=>hp hn ad e ?_)).trans (hc j v hv)
 have:=congrArg Addr.block e2
 rw [zao] at this
 first|exact this|exact this.symm
theorem zib {w:World}{x:Nat}{p:Bool}{A q:oA9}{n c r s g:Nat}{t:TypeId}(h:zak w x A n c)(hk:Blk w g t #[.bool p,.slice q r s])(p':Bool)(q':oA9)(r' s':Nat):
  zak ((w.setCell ⟨g,0,none⟩ (.bool p')).setCell ⟨g,1,none⟩ (.slice q' r' s')) x A n c:=by
 have h1:=zia (p:=⟨g,0,none⟩) h (zjE h.1 hk (by intro v hv;simp at hv;rcases hv with rfl|rfl<;>intro z e<;>cases e)) (.bool p')
 exact zia (p:=⟨g,1,none⟩) h1 (zjE h1.1 (hk.set_ 0 (.bool p')) (by intro v hv;simp at hv;rcases hv with rfl|rfl<;>intro z e<;>cases e)) _
def sgI (s:Bool)(x:Nat):Int:=if s then -(x:Int) else(x:Int)
theorem zgC (s:Bool)(x:Nat):(sgI s x).natAbs=x:=by unfold sgI;split<;>omega
theorem sgI_neg (s:Bool)(x:Nat):decide (sgI s x<0)=(s&&decide (0<x)):=by unfold sgI;cases s<;>simp
theorem len16_ne {w:World}{x:Nat}{A:oA9}{n c:Nat}(h:zak w x A n c):decide (0<n)=decide (0<x):=by
 rw [h.len]
 by_cases hx:x=0
 ·subst hx;rfl
 ·have:=(zha (b:=65536) (by decide) x hx).1
  rw [decide_eq_true (by omega:0<x),decide_eq_true (by omega)]
theorem zeh (s:Bool)(x:Nat)(A:oA9)(n c:Nat)(w:World)(h:zak w x A n c)(hn:n<=1099511627776):
  Calls Tryz.prog 92 #[.bool s,.slice A n c] w (zjV w (sgI s x)):=by
 obtain⟨hB,b2,b5⟩:=zaA w 92 #[.bool false,.slice none 0 0]
 have hh:=h.below hB
 have hsx:=sgI_neg s x
 rw [<-len16_ne h] at hsx
 have HSX:=lh9 hsx
 have HSA:=lh9 (zgC s x)
 clear h hsx
 cases s
 ·go_enter Tryz.func92,Tryz.ntmps92
  generalize hW:w.alloc (.cells #[.bool false,.slice none 0 0] 92)=W0 at*
  have hk9:=(b2.set_ 0 (.bool false)).set_ 1 (.slice A n c)
  have r0:=hk9.cell 0
  have r1:=hk9.cell 1
  have c0:=b2.cell 0
  have f0:=b2.frozen 0
  have c1:(W0.setCell ⟨w.heap.size,0,none⟩ (.bool false)).cell? ⟨w.heap.size,1,none⟩=some (.slice none 0 0):=(b2.set_ 0 (.bool false)).cell 1
  have f1:=(b2.set_ 0 (.bool false)).frozen 1
  have HG : Hid (zjV w (sgI false x) (.returned (.agg #[.bool false,.slice A n c])) ((W0.setCell ⟨w.heap.size,0,none⟩ (.bool false)).setCell ⟨w.heap.size,1,none⟩ (.slice A n c))) :=
   ⟨false,A,n,c,rfl,⟨by rw [HSX.out];rfl,by rw [HSA.out];exact zib hh b2 _ _ _ _⟩,zag _ (Nat.le_refl _) (zag _ (Nat.le_refl _) hB)⟩
  clear hk9 b2 hh hB
  go_wp2
  refine bodyPost_ret (v:=.agg #[.bool false,.slice A n c]) (by simp [results,Tryz.results92,go_sem,r0,r1]) rfl ?_
  exact HG.out
 ·have hd:decide ((0:Int)<(n:Int))=decide (0<n):=by by_cases h:0<n<;>simp [h]
  obtain⟨d,hd2⟩:∃d,decide (0<n)=d:=⟨_,rfl⟩
  rw [hd2] at hd HSX
  have hd3:decide ((n:Int)>0)=d:=hd
  go_enter Tryz.func92,Tryz.ntmps92
  generalize hW:w.alloc (.cells #[.bool false,.slice none 0 0] 92)=W0 at*
  have hk9:=(b2.set_ 0 (.bool d)).set_ 1 (.slice A n c)
  have r0:=hk9.cell 0
  have r1:=hk9.cell 1
  have c0:=b2.cell 0
  have f0:=b2.frozen 0
  have c1:(W0.setCell ⟨w.heap.size,0,none⟩ (.bool d)).cell? ⟨w.heap.size,1,none⟩=some (.slice none 0 0):=(b2.set_ 0 (.bool d)).cell 1
  have f1:=(b2.set_ 0 (.bool d)).frozen 1
  have HG : Hid (zjV w (sgI true x) (.returned (.agg #[.bool d,.slice A n c])) ((W0.setCell ⟨w.heap.size,0,none⟩ (.bool d)).setCell ⟨w.heap.size,1,none⟩ (.slice A n c))) :=
   ⟨d,A,n,c,rfl,⟨by rw [HSX.out];rfl,by rw [HSA.out];exact zib hh b2 _ _ _ _⟩,zag _ (Nat.le_refl _) (zag _ (Nat.le_refl _) hB)⟩
  clear hk9 b2 hh hB
  go_wp2
  refine bodyPost_ret (v:=.agg #[.bool d,.slice A n c]) (by simp [results,Tryz.results92,go_sem,r0,r1]) rfl ?_
  exact HG.out
