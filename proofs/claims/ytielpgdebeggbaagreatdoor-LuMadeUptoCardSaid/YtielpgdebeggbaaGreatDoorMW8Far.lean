/- What this claim leans on. -/
import Derived.Test.YtielpgdebeggbaaGreatDoorMP8C
set_option linter.unusedVariables false
set_option linter.unusedSimpArgs false
namespace Go.Proofs.YtielpgdebeggbaaGreatDoor
open Go Go.RowKit
set_option maxHeartbeats 16000000
variable {a a0:Act}{cs:Array Value}{b p:Bool}{z:Int}{D:List Nat}{B K K' c f g i id k n x:Nat}{s:Rat}{t:TypeId}{u v y:Value}{W w w':World}{A E:ze}
def zT (g:Nat)(w w':World):Prop:=w'.heap.size=w.heap.size/\∀p:Addr,p.block≠g->w'.cell? p=w.cell? p
theorem zT.refl (g:Nat)(w:World):zT g w w:=⟨rfl,λ_ _=>rfl⟩
theorem zT.set_ (h:zT g w w')(j:Nat)(v:Value):zT g w (w'.setCell ⟨g,j,none⟩ v):=
 ⟨by rw [<-h.1];simp,λp hp=>(yR w' ⟨g,j,none⟩ p v (λe=>hp (by first|rw [e]|rw [<-e]))).trans (h.2 p hp)⟩
theorem rn (w:World)(g:Nat)(v0:Value):zT g w (w.setCell ⟨g,0,none⟩ v0):=(zT.refl g w).set_ 0 v0
theorem um (w:World)(g:Nat)(v0 v1:Value):zT g w ((w.setCell ⟨g,0,none⟩ v0).setCell ⟨g,1,none⟩ v1):=(rn w g v0).set_ 1 v1
theorem vP (w:World)(g:Nat)(v0 v1 v2:Value):zT g w (((w.setCell ⟨g,0,none⟩ v0).setCell ⟨g,1,none⟩ v1).setCell ⟨g,2,none⟩ v2):=(um w g v0 v1).set_ 2 v2
def y9 (cs:Array Value):Prop:=∀v ∈ cs.toList,∀k z,v≠.int k z
theorem y9.s1 (q:ze)(r s:Nat):y9 #[.slice q r s]:=by intro v hv k z e;simp at hv;subst hv;cases e
theorem y9.s2 (p:Bool)(q:ze)(r s:Nat):y9 #[.bool p,.slice q r s]:=by intro v hv k z e;simp at hv;rcases hv with rfl|rfl<;>cases e
theorem y9.s3 (p:Bool)(q:ze)(r s:Nat)(q2:ze)(r2 s2:Nat):y9 #[.bool p,.slice q r s,.slice q2 r2 s2]:=by intro v hv k z e;simp at hv;rcases hv with rfl|rfl|rfl<;>cases e
theorem vO:y9 #[.slice none 0 0]:=y9.s1 _ _ _
theorem aX:y9 #[.bool false,.slice none 0 0]:=y9.s2 _ _ _ _
theorem VD {k:IntKind}{l:List Nat}(h:zN w w.heap.size 1 A n (zH k l))(hk:zh w g t cs)(a:y9 cs):0<n->∀ad,A=some ad->ad.block≠g:=λhn ad e hg=>by
 have hl:=h.len_;obtain⟨ad',e',_,hc⟩:=h.2 hn;rw [e] at e';injection e' with e';subst e';have h0:=hc 0 (.int k (l.getD 0 0:Nat)) (kB k _ 0 za);have e0:ad.add 0=ad:=by unfold Addr.add;rw [if_pos rfl]
 rw [e0] at h0;obtain⟨bk,off,pr⟩:=ad;simp only at hg;subst hg;unfold zh at hk;cases pr with
 |none=>
   rw [show w.cell? ⟨bk,off,none⟩=cs[off]? from cell_of_row w bk off _ t (0,0) hk,<-QS] at h0;exact a _ (QX h0) _ _ rfl
 |some q=>simp [World.cell?,hk] at h0
theorem PR {k:IntKind}{l:List Nat}(h:zN w w.heap.size 1 A n (zH k l))(hk:zh w g t cs)(a:y9 cs)(ho:zT g w w'):zN w' w'.heap.size 1 A n (zH k l):=by
 have d:=VD h hk a;refine⟨h.1,λhn=>?_⟩;obtain⟨ad,e,hb,hc⟩:=h.2 hn;refine⟨ad,e,by rw [ho.1];exact hb,λj v hv=>?_⟩;rw [ho.2 (ad.add j) (by rw [y4];exact d hn ad e)];exact hc j v hv
theorem uO (h:zq w x A n c)(hk:zh w g t cs)(a:y9 cs)(ho:zT g w w'):zq w' x A n c:=⟨PR h.1 hk a ho,h.2⟩
theorem Yz (h:yi w z b A n c)(hk:zh w g t cs)(a:y9 cs)(ho:zT g w w'):yi w' z b A n c:=⟨h.1,uO h.2 hk a ho⟩
theorem iY {r:Rat}(h:zo w r b A n c E k f)(hk:zh w g t cs)(a:y9 cs)(ho:zT g w w'):zo w' r b A n c E k f:=by
 refine⟨Yz h.1 hk a ho,?_⟩;obtain⟨x,e,hx⟩:=h.2;exact⟨x,e,uO hx hk a ho⟩
def zn (K:Nat)(r:Rat):Prop:=y5 (18446744073709551616^K) r
theorem zn.up {r:Rat}(h:zn K r)(hk:K<=K'):zn K' r:=y5.up h (qA zf hk)
theorem Vq (K K':Nat):2*(18446744073709551616^K*18446744073709551616^K')<=18446744073709551616^(K+K'+1):=by
 rw [QD,xW,QK];exact QN _ zf
theorem zn.add {r:Rat}(h:zn K r)(h':zn K' s):zn (K+K'+1) (r+s):=y5.up (y5.add h h') (Vq K K')
theorem zn.sub {r:Rat}(h:zn K r)(h':zn K' s):zn (K+K'+1) (r - s):=y5.up (y5.sub h h') (Vq K K')
theorem zn.mul {r:Rat}(h:zn K r)(h':zn K' s):zn (K+K') (r*s):=y5.up (y5.mul h h') (by rw [xW];exact qX _)
theorem zn.div {r:Rat}(h:zn K r)(h':zn K' s):zn (K+K') (r / s):=y5.up (y5.div h h') (by rw [xW];exact qX _)
theorem zn.neg {r:Rat}(h:zn K r):zn K (-r):=y5.neg h
theorem zn.inv {r:Rat}(h:zn K r):zn K r⁻¹:=y5.inv h
theorem zn.abs {r:Rat}(h:zn K r):zn K r.abs:=by
 unfold Rat.abs
 split
 ·exact h
 ·exact h.neg
theorem zn.min {r:Rat}(h:zn K r)(h':zn K' s):zn (K+K') (fv r s):=by
 unfold fv
 split
 ·exact h.up za
 ·exact h'.up za
theorem zn.num {r:Rat}(h:zn K r):Sz K r.num.natAbs:=h.1
theorem zn.den {r:Rat}(h:zn K r):Sz K r.den:=h.2
theorem cH (h:0<K):1<18446744073709551616^K:=Nat.one_lt_pow za zf
theorem zn.whole (h:Sz K z.natAbs)(hK:0<K):zn K (z:Rat):=y5.whole h (cH hK)
theorem zn.made {K:Nat}{p q:Int}(h:Sz K p.natAbs)(h':Sz K q.natAbs)(hK:0<K):zn K (Rat.divInt p q):=y5.made h h' (cH hK)
theorem zn.zero:zn 1 (0:Rat):=⟨zf,zf⟩
theorem zn.fit {r:Rat}(h:zn K r){w:World}{b:Bool}{A:ze}{n c:Nat}{E:ze}{k f:Nat}(hr:zo w r b A n c E k f)(hK:K<=67108864):zY n k:=by
 refine⟨qH (h.num.words hr.1.2) (qH hK zf),?_⟩;obtain⟨x,⟨e,_⟩,hx⟩:=hr.2;have hd:Sz K x:=h.den.of_le (by rw [e];split<;>omega);exact qH (hd.words hx) (qH hK zf)
def tC (D:List Nat)(a0 a:Act):Prop:=a.defers=a0.defers/\a.tmps.size=a0.tmps.size/\∀j,j ∉ D->a.tmps.getD j undef=a0.tmps.getD j undef
theorem tC.refl (D:List Nat)(a:Act):tC D a a:=⟨rfl,rfl,λ_ _=>rfl⟩
theorem nG {j:Nat}(h:j≠i)(v:Value):(a.put (some i) v).tmps.getD j undef=a.tmps.getD j undef:=by
 simp only [Act.put,QR];rw [qK (Ne.symm h)]
theorem o6 (h:i<a.tmps.size)(v:Value):(a.put (some i) v).tmps.getD i undef=v:=by
 simp only [Act.put,QR];rw [QZ h];rfl
theorem bJ (a:Act)(i:Nat)(v:Value):(a.put (some i) v).tmps.size=a.tmps.size:=by simp [Act.put]
theorem tC.put (h:tC D a0 a){i:Nat}(hi:i ∈ D)(v:Value):tC D a0 (a.put (some i) v):=
 ⟨h.1,by rw [bJ];exact h.2.1,λj hj=>(nG (λe=>hj (by rw [e];exact hi)) v).trans (h.2.2 j hj)⟩
theorem tC.get (h:tC D a0 a)(j:Nat)(hj:j ∉ D){v:Value}(hv:a0.tmps.getD j undef=v):a.tmps.getD j undef=v:=(h.2.2 j hj).trans hv
theorem tC.lt (h:tC D a0 a){j:Nat}(hj:j<a0.tmps.size):j<a.tmps.size:=by rw [h.2.1];exact hj
theorem nP {b:Act}(hd:a.defers=b.defers)(hs:a.tmps.size=b.tmps.size)(hg:∀j,a.tmps.getD j undef=b.tmps.getD j undef):a=b:=by
 obtain⟨at_,ad⟩:=a;obtain⟨bt,bd⟩:=b;simp only at hd hs hg;subst hd;congr 1;refine Array.ext hs λj h1 h2=>?_;have:=hg j;simp only [QR,QU h1,QU h2] at this;exact this
def uf (vs:List (Nat×Value))(a:Act):Act:=vs.foldl (λa p=>a.put (some p.1) p.2) a
theorem Wu (vs:List (Nat×Value))(a:Act):(uf vs a).tmps.size=a.tmps.size/\(uf vs a).defers=a.defers:=by
 unfold uf
 induction vs generalizing a with
 |nil=>exact⟨rfl,rfl⟩
 |cons p t ih=>rw [List.foldl_cons];have:=ih (a.put (some p.1) p.2);exact⟨this.1.trans (bJ _ _ _),this.2⟩
theorem Qw (vs:List (Nat×Value))(a b:Act)(hs:b.tmps.size=a.tmps.size)(hv:∀p ∈ vs,a.tmps.getD p.1 undef=p.2):∀j,(uf vs b).tmps.getD j undef=if j ∈ vs.map Prod.fst then a.tmps.getD j undef else b.tmps.getD j undef:=by
 intro j
 induction vs generalizing b with
 |nil=>rfl
 |cons p t ih=>
   show(uf t (b.put (some p.1) p.2)).tmps.getD j undef=_;rw [ih (b.put (some p.1) p.2) (by rw [bJ];exact hs) (λq hq=>hv q (XC _ hq))];by_cases h1:j ∈ t.map Prod.fst
   ·rw [if_pos h1,if_pos (by rw [yQ];exact XC _ h1)]
   ·rw [if_neg h1];by_cases h2:j=p.1
    ·rw [if_pos (by rw [yQ,h2];exact xT),h2,hv p xT];by_cases h3:p.1<b.tmps.size
     ·exact o6 h3 _
     ·have h4:=hv p xT;have h5:¬ p.1<a.tmps.size:=by rw [<-hs];exact h3
      simp only [QR] at h4⊢;rw [Array.getElem?_eq_none za] at h4;rw [Array.getElem?_eq_none (by rw [bJ];omega)];exact h4
    ·rw [if_neg (by rw [yQ];intro h;rcases List.mem_cons.1 h with h|h;exact h2 h;exact h1 h)];exact nG h2 _
theorem tC.eq (h:tC D a0 a)(vs:List (Nat×Value))(hD:vs.map Prod.fst=D)(hv:∀p ∈ vs,a.tmps.getD p.1 undef=p.2):a=uf vs a0:=by
 subst hD;refine nP (h.1.trans (Wu vs a0).2.symm) (h.2.1.trans (Wu vs a0).1.symm) λj=>?_;rw [Qw vs a a0 h.2.1.symm hv j];by_cases h1:j ∈ vs.map Prod.fst
 ·rw [if_pos h1]
 ·rw [if_neg h1];exact h.2.2 j h1
section
variable {P:Program}{ops0:Array Oper}{Q:Exit->Act->World->Prop}{md:Region.Mode}{S:World->Prop}
theorem S8 {J:Act->Array Bool->Act->World->Prop}{L:Array Bool}{l0:Array Bool}{w0:World}(hd:sI l0=g)(h0:J a0 l0 a0 w0)
  (h:∀(j:Array Oper) (A0:Act) (Q':Exit->Act->World->Prop),j=ops0->A0.tmps.size=a0.tmps.size->(∀i d,A0.tmps.getD i d=a0.tmps.getD i d)->(∀l a w,J A0 l a w->Region.ready md j l=[]->l=L)/\∀l a w i,J A0 l a w->l≠L->i ∈ Region.ready md j l->wpOp P j Q' i (λa' w'=>S w'/\J A0 (l.setIfInBounds i true) a' w') a w)
  (k:∀a w,J a0 L a w->wpAnyH P md ops0 Q S (sI L) L a w):wpAnyH P md ops0 Q S g l0 a0 w0:=
 WF (h ops0 a0 Q rfl rfl (λ_ _=>rfl)).1 (h ops0 a0 Q rfl rfl (λ_ _=>rfl)).2 k g l0 a0 w0 hd h0
theorem aI {d:Array Oper}{o:Oper}{K:Act->World->Prop}(ho:d[i]?=some o)(hg:o.guard=none)
  (h:∀K':Act->World->Prop,Shut (∀a w,K a w->K' a w)->Oper.wp P o a w K' Q):wpOp P d Q i K a w:=
 wpOp_step ho λK' hK=>by
  rw [if_pos (by unfold Region.wanted;rw [hg])];exact h K' hK
theorem gj {o:Oper}{K:Act->World->Prop}{w':World}{v:Value}(h:(execOp a.eval o).run P w=.ok (.value v) w')(hK:K (a.put o.dst v) w'):Oper.wp P o a w K Q:=by
 unfold Oper.wp;rw [h];exact hK
theorem VO {o:Oper}{K:Act->World->Prop}{x:Nat}(ho:o.op=.move (.tmp x)\/o.op=.assign (.tmp x))(hx:a.tmps.getD x undef=v)(hK:K (a.put o.dst v) w):Oper.wp P o a w K Q:=by
 refine gj (v:=v) (w':=w) ?_ hK;unfold execOp;rcases ho with ho|ho<;>rw [ho]<;>simp only [Act.eval,hx]<;>rfl
theorem Zp {o:Oper}{K:Act->World->Prop}{x k:Nat}{vs:Array Value}(ho:o.op=.extract (.tmp x) k)(hx:a.tmps.getD x undef=.tuple vs)(hk:vs[k]?=some v)(hK:K (a.put o.dst v) w):Oper.wp P o a w K Q:=by
 refine gj (v:=v) (w':=w) ?_ hK;unfold execOp;rw [ho];simp only [Act.eval,hx,Instr.extract,hk];rfl
end
def Cs (w:World):List (Addr×Value)->Prop
 |[]=>True
 |q::t=>w.cell? q.1=some q.2/\Cs w t
theorem zO:Cs w []:=trivial
theorem zj {p:Addr}{l:List (Addr×Value)}(h:w.cell? p=some v)(t:Cs w l):Cs w ((p,v)::l):=⟨h,t⟩
theorem Cs.below {l:List (Addr×Value)}(h:Cs w l)(hb:Below w.heap.size w w'):Cs w' l:=by
 induction l with
 |nil=>trivial
 |cons q t ih=>exact⟨zw hb h.1,ih h.2⟩
theorem Cs.drew {l:List (Addr×Value)}(h:Cs w l):Cs w.drew l:=by
 induction l with
 |nil=>trivial
 |cons q t ih=>exact⟨h.1,ih h.2⟩
def uk (g:Nat):List (Addr×Value)->Prop
 |[]=>True
 |q::t=>q.1.block≠g/\uk g t
theorem Cs.far {l:List (Addr×Value)}(h:Cs w l)(hf:zT g w w')(hn:uk g l):Cs w' l:=by
 induction l with
 |nil=>trivial
 |cons q t ih=>exact⟨(hf.2 q.1 hn.1).trans h.1,ih h.2 hn.2⟩
theorem aT {l:List (Addr×Value)}(x y:Value)(h:Cs w l)(hn:uk g l:=by(simp only [uk,and_true];try omega)):Cs ((w.setCell ⟨g,0,none⟩ x).setCell ⟨g,1,none⟩ y) l:=h.far (um w g x y) hn
theorem v7 {l:List (Addr×Value)}(x y z:Value)(h:Cs w l)(hn:uk g l:=by(simp only [uk,and_true];try omega)):Cs (((w.setCell ⟨g,0,none⟩ x).setCell ⟨g,1,none⟩ y).setCell ⟨g,2,none⟩ z) l:=h.far (vP w g x y z) hn
theorem z8:(∀(a:Act) (d:Nat) (v:Value),a.put (some d) v={tmps:=a.tmps.setIfInBounds d v,defers:=a.defers})/\(∀(a:Act) (v:Value),a.put none v=a)/\(∀(l:List Value) (i:Nat) (v:Value),l.toArray.setIfInBounds i v=(l.set i v).toArray)/\(∀(x:Value) (l:List Value) (v:Value),(x::l).set 0 v=v::l)/\(∀(x:Value) (l:List Value) (i:Nat) (v:Value),(x::l).set (i+1) v=x::l.set i v):=
 ⟨λ_ _ _=>rfl,λ_ _=>rfl,λ_ _ _=>qU ..,λ_ _ _=>rfl,λ_ _ _ _=>rfl⟩
section
variable {P:Program}{ops:Array Oper}{Q:Exit->Act->World->Prop}{S:World->Prop}{fuel:Nat}{l:Array Bool}{a:Act}{w:World}
theorem rg {cl:List (Addr×Value)}(h0:Cs w cl)(h:Cs w.drew cl->wpAnyH P .any ops (NoPanic Q) (λw'=>Cs w' cl) ops.size (Array.replicate ops.size false) a w.drew)(hm:P.follows Departure.mixedOrders=true:=by kernel_rfl):Code.wp P (.region id ops true) Q a w:=
 wp_region_noPanic (wp_region_held_drew (S:=λw'=>Cs w' cl) hm h0.drew h)
theorem tk (i:Nat){o:Oper}{v:Value}{a':Act}(hn:wpAnyH P .any ops (NoPanic Q) S fuel (l.setIfInBounds i true) a' w)(h1:ops[i]?=some o:=by simp only [qT,qG,qR];rfl)(h2:Region.noSelect ops=true:=by kernel_rfl)(h3:Region.free .any ops l i=true:=by kernel_rfl)(h4:(Region.ready .any ops l).contains i=true:=by kernel_rfl)(h5:Region.wanted o (yielded ops a.tmps)=true:=by rfl)(h6:∀w,S w->Sem.run P (execOp a.eval o) w=Result.ok (Next.value v) w:=by((intro w d;(try dsimp only [Cs] at d);go_simp);(try with_reducible rfl)))(hS:S w:=by with_reducible assumption)(ha:a.put o.dst v=a':=by(simp only [z8];try rfl)):wpAnyH P .any ops (NoPanic Q) S (fuel+1) l a w:=
 wpAnyH_take h1 h2 h3 h4 (λ_ _ _ h=>h) (Or.inl ⟨h5,h6⟩) hS (ha▸hn)
theorem tu (i:Nat){o:Oper}{a':Act}(hn:wpAnyH P .any ops (NoPanic Q) S fuel (l.setIfInBounds i true) a' w)(h1:ops[i]?=some o:=by simp only [qT,qG,qR];rfl)(h2:Region.noSelect ops=true:=by kernel_rfl)(h3:Region.free .any ops l i=true:=by kernel_rfl)(h4:(Region.ready .any ops l).contains i=true:=by kernel_rfl)(h5:Region.wanted o (yielded ops a.tmps)=false:=by rfl)(hS:S w:=by with_reducible assumption)(ha:a.put o.dst undef=a':=by(simp only [z8];try rfl)):wpAnyH P .any ops (NoPanic Q) S (fuel+1) l a w:=
 wpAnyH_take h1 h2 h3 h4 (λ_ _ _ h=>h) (Or.inr ⟨h5,rfl⟩) hS (ha▸hn)
theorem rc (i:Nat){o:Oper}(hk:∀K':Act->World->Prop,Shut (∀(a:Act) (w:World),S w->(S w->wpAnyH P .any ops (NoPanic Q) S fuel (l.setIfInBounds i true) a w)->K' a w)->Oper.wp P o a w K' (NoPanic Q))(h1:ops[i]?=some o:=by simp only [qT,qG,qR];rfl)(h2:Region.ready .any ops l=[i]:=by kernel_rfl)(h3:Region.wanted o (yielded ops a.tmps)=true:=by rfl):wpAnyH P .any ops (NoPanic Q) S (fuel+1) l a w:=
 wpAnyH_ready h2 zF (AllReadyH.cons h1 (λK' hK=>by rw [if_pos h3];exact hk K' hK) AllReadyH.nil)
theorem zV (h:Q .normal a w)(hr:Region.ready .any ops l=[]:=by kernel_rfl):wpAnyH P .any ops (NoPanic Q) S fuel l a w:=wpAnyH_done hr (NoPanic.normal h) fuel
variable {ops0:Array Oper}{md:Region.Mode}{i:Nat}
theorem vi (d k:Nat){o:Oper}{e:Edge}(hi:i ∈ Region.ready md ops l)(hO:ops=ops0)(ho:ops0[i]?=some o:=by simp only [qT,qG,qR];rfl)(he:o.after[k]?=some e:=by rfl)(hb:Region.binds md e=true:=by rfl)(hd:e.on=d:=by rfl):l.getD d false=true:=by
 subst hO;subst hd;exact PS hi ho he hb
theorem ng (i:Nat){o:Oper}(h:Region.ready md ops l=[])(hO:ops=ops0)(ho:ops0[i]?=some o:=by simp only [qT,qG,qR];rfl)(hr:(o.after.toList.all λe=> !Region.binds md e||l.getD e.on false)=true:=by rfl):l.getD i true=true:=by
 subst hO;exact R5 h ho hr
theorem ni (i:Nat){L l:Array Bool}(h:L=l):l.getD i false=L.getD i false:=by rw [h]
theorem Gd.off (h:Gd b (false=true)):b=false:=by
 cases b
 ·rfl
 ·exact absurd (h rfl) zf
theorem nv {o:Oper}{K:Act->World->Prop}{Q:Exit->Act->World->Prop}(hO:ops=ops0)(h:∀K':Act->World->Prop,Shut (∀a w,K a w->K' a w)->Oper.wp P o a w K' Q)(ho:ops0[i]?=some o:=by simp only [qT,qG,qR];rfl)(hg:o.guard=none:=by rfl):wpOp P ops Q i K a w:=by
 subst hO;exact aI ho hg h
theorem nj {f:Bool}(h:Gd f (a.tmps.getD x undef=u))(hn:x≠i:=by decide):Gd f ((a.put (some i) v).tmps.getD x undef=u):=h.mono λh=>(nG hn _).trans h
theorem kq {f:Bool}{p q:Prop}(h:Gd f (a.tmps.getD x undef=u/\p))(g:p->q)(hn:x≠i:=by decide):Gd f ((a.put (some i) v).tmps.getD x undef=u/\q):=h.mono λh=>⟨(nG hn _).trans h.1,g h.2⟩
end
theorem zh.c1 {x:Value}(h:zh w g t #[x]):w.cell? ⟨g,0,none⟩=some x:=h.cell 0
theorem zh.c2 {x:Value}(h:zh w g t #[x,y]):w.cell? ⟨g,0,none⟩=some x/\w.cell? ⟨g,1,none⟩=some y:=⟨h.cell 0,h.cell 1⟩
theorem zh.c3 {x z:Value}(h:zh w g t #[x,y,z]):w.cell? ⟨g,0,none⟩=some x/\w.cell? ⟨g,1,none⟩=some y/\w.cell? ⟨g,2,none⟩=some z:=⟨h.cell 0,h.cell 1,h.cell 2⟩
theorem iC {a:Value}(h:zh w g t #[a]):w.cell? ⟨g,0,none⟩=some a/\w.frozen? ⟨g,0,none⟩=false:=⟨h.cell 0,h.frozen 0⟩
theorem uH {a b:Value}(h:zh w g t #[a,b])(x:Value):w.cell? ⟨g,0,none⟩=some a/\w.frozen? ⟨g,0,none⟩=false/\(w.setCell ⟨g,0,none⟩ x).cell? ⟨g,1,none⟩=some b/\(w.setCell ⟨g,0,none⟩ x).frozen? ⟨g,1,none⟩=false:=⟨h.cell 0,h.frozen 0,(h.set_ 0 x).cell 1,(h.set_ 0 x).frozen 1⟩
theorem y6 {a b c:Value}(h:zh w g t #[a,b,c])(x y:Value):w.cell? ⟨g,0,none⟩=some a/\w.frozen? ⟨g,0,none⟩=false/\(w.setCell ⟨g,0,none⟩ x).cell? ⟨g,1,none⟩=some b/\(w.setCell ⟨g,0,none⟩ x).frozen? ⟨g,1,none⟩=false/\((w.setCell ⟨g,0,none⟩ x).setCell ⟨g,1,none⟩ y).cell? ⟨g,2,none⟩=some c/\((w.setCell ⟨g,0,none⟩ x).setCell ⟨g,1,none⟩ y).frozen? ⟨g,2,none⟩=false:=
 ⟨h.cell 0,h.frozen 0,(h.set_ 0 x).cell 1,(h.set_ 0 x).frozen 1,((h.set_ 0 x).set_ 1 y).cell 2,((h.set_ 0 x).set_ 1 y).frozen 2⟩
theorem ju {a:Value}(h:zh w g t #[a])(x:Value):zh (w.setCell ⟨g,0,none⟩ x) g t #[x]:=h.set_ 0 x
theorem uG {a b:Value}(h:zh w g t #[a,b])(x y:Value):zh ((w.setCell ⟨g,0,none⟩ x).setCell ⟨g,1,none⟩ y) g t #[x,y]:=(h.set_ 0 x).set_ 1 y
theorem xf {a b c:Value}(h:zh w g t #[a,b,c])(x y z:Value):zh (((w.setCell ⟨g,0,none⟩ x).setCell ⟨g,1,none⟩ y).setCell ⟨g,2,none⟩ z) g t #[x,y,z]:=((h.set_ 0 x).set_ 1 y).set_ 2 z
theorem gT (x:Value)(hg:w.heap.size<=g)(h:Below w.heap.size w W):Below w.heap.size w (W.setCell ⟨g,0,none⟩ x):=zQ x hg h
theorem gU (x y:Value)(hg:w.heap.size<=g)(h:Below w.heap.size w W):Below w.heap.size w ((W.setCell ⟨g,0,none⟩ x).setCell ⟨g,1,none⟩ y):=zQ y hg (zQ x hg h)
theorem lV (x y z:Value)(hg:w.heap.size<=g)(h:Below w.heap.size w W):Below w.heap.size w (((W.setCell ⟨g,0,none⟩ x).setCell ⟨g,1,none⟩ y).setCell ⟨g,2,none⟩ z):=zQ z hg (gU x y hg h)
theorem Xj {q:ze}{r s:Nat}(h:zq W x A n c)(k:zh W g t #[.slice q r s])(hB:Below w.heap.size w W)(hg:w.heap.size<=g):ic w x (.returned (.agg #[.slice A n c])) (W.setCell ⟨g,0,none⟩ (.slice A n c)):=
 ⟨_,_,_,rfl,uO h k (y9.s1 _ _ _) (rn _ _ _),gT _ hg hB⟩
theorem aU {q:ze}{r s:Nat}(h:yi W z b A n c)(k:zh W g t #[.bool p,.slice q r s])(hB:Below w.heap.size w W)(hg:w.heap.size<=g):wl w z (.returned (.agg #[.bool b,.slice A n c])) ((W.setCell ⟨g,0,none⟩ (.bool b)).setCell ⟨g,1,none⟩ (.slice A n c)):=
 ⟨_,_,_,_,rfl,Yz h k (y9.s2 _ _ _ _) (um _ _ _ _),gU _ _ hg hB⟩
theorem va {r:Rat}{q q2:ze}{r1 s r2 s2:Nat}(h:zo W r b A n c E k f)(kd:zh W g t #[.bool p,.slice q r1 s,.slice q2 r2 s2])(hB:Below w.heap.size w W)(hg:w.heap.size<=g):yj w r (.returned (.agg #[.bool b,.slice A n c,.slice E k f])) (((W.setCell ⟨g,0,none⟩ (.bool b)).setCell ⟨g,1,none⟩ (.slice A n c)).setCell ⟨g,2,none⟩ (.slice E k f)):=
 ⟨_,_,_,_,_,_,_,rfl,iY h kd (y9.s3 _ _ _ _ _ _ _) (vP _ _ _ _ _),lV _ _ _ hg hB⟩
theorem ml {r:Rat}(u:Bool){g:Nat}{t:TypeId}{b:Bool}{A E:ze}{n c k f:Nat}{p:Bool}{q q2:ze}{r1 s r2 s2:Nat}(h:zo W r b A n c E k f)(kd:zh W g t #[.bool p,.slice q r1 s,.slice q2 r2 s2])(hB:Below w.heap.size w W)(hg:w.heap.size<=g):ub w r u (.returned (.tuple #[.agg #[.bool b,.slice A n c,.slice E k f],.bool u])) (((W.setCell ⟨g,0,none⟩ (.bool b)).setCell ⟨g,1,none⟩ (.slice A n c)).setCell ⟨g,2,none⟩ (.slice E k f)):=
 ⟨_,_,_,_,_,_,_,rfl,iY h kd (y9.s3 _ _ _ _ _ _ _) (vP _ _ _ _ _),lV _ _ _ hg hB⟩
section
variable {P:Program}{ops:Array Oper}{Q:Exit->Act->World->Prop}{S:World->Prop}{fuel:Nat}{l:Array Bool}{a:Act}{w:World}
theorem pW (h:Below w.heap.size w w.drew->wpAnyH P .any ops (NoPanic Q) (λw'=>Below w.heap.size w w') ops.size (Array.replicate ops.size false) a w.drew)(hm:P.follows Departure.mixedOrders=true:=by kernel_rfl):Code.wp P (.region id ops true) Q a w:=
 wp_region_noPanic (wp_region_held_drew (S:=λw'=>Below w.heap.size w w') hm (qZ _ w).drew h)
theorem tl (i:Nat){cl:List (Addr×Value)}(hc:∀w,S w->Cs w cl){o:Oper}{v:Value}{a':Act}(hn:wpAnyH P .any ops (NoPanic Q) S fuel (l.setIfInBounds i true) a' w)(h1:ops[i]?=some o:=by simp only [qT,qG,qR];rfl)(h2:Region.noSelect ops=true:=by kernel_rfl)(h3:Region.free .any ops l i=true:=by kernel_rfl)(h4:(Region.ready .any ops l).contains i=true:=by kernel_rfl)(h5:Region.wanted o (yielded ops a.tmps)=true:=by rfl)(h6:∀w,Cs w cl->Sem.run P (execOp a.eval o) w=Result.ok (Next.value v) w:=by((intro w d;(try dsimp only [Cs] at d);go_simp);(try with_reducible rfl)))(hS:S w:=by with_reducible assumption)(ha:a.put o.dst v=a':=by(simp only [z8];try rfl)):wpAnyH P .any ops (NoPanic Q) S (fuel+1) l a w:=
 wpAnyH_take h1 h2 h3 h4 (λ_ _ _ h=>h) (Or.inl ⟨h5,λw hs=>h6 w (hc w hs)⟩) hS (ha▸hn)
end
theorem y7 (h:zd (Sz K x))(k:zq w x A n c)(e:K<=B:=by omega):n<=B:=qH (h.o.words k) e
theorem yz {K:Nat}(h:zd (Sz K z.natAbs))(k:yi w z b A n c)(e:K<=B:=by omega):n<=B:=qH (h.o.words k.words) e
theorem szq {r:Rat}(h:zd (zn K r))(q:zo w r b A n c E k f)(e:K<=67108864:=by omega):zY n k:=zn.fit h.o q e
