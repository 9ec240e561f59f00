/- What this claim leans on. -/
import Derived.Test.YtkcjgcflloldoaaGreatDoorPBunB
set_option linter.unusedVariables false
set_option linter.unusedSimpArgs false
namespace Go.Proofs.YtkcjgcflloldoaaGreatDoor
open Go Go.RowKit
set_option maxHeartbeats 16000000
variable {a a0:Act}{cs:Array Value}{b p:Bool}{z:Int}{D:List Nat}{B K K' c f g i id k n x:Nat}{s:Rat}{t:TypeId}{u v y:Value}{W w w':World}{A E:ze}
def xg (g:Nat)(w w':World):Prop:=w'.heap.size=w.heap.size/\∀p:Addr,p.block≠g->w'.cell? p=w.cell? p
theorem xg.refl (g:Nat)(w:World):xg g w w:=⟨rfl,λ_ _=>rfl⟩
theorem xg.set_ (h:xg g w w')(j:Nat)(v:Value):xg g w (w'.setCell ⟨g,j,none⟩ v):=
 ⟨by rw [<-h.1];simp,λp hp=>(yY w' ⟨g,j,none⟩ p v (λe=>hp (by first|rw [e]|rw [<-e]))).trans (h.2 p hp)⟩
theorem pL (w:World)(g:Nat)(v0:Value):xg g w (w.setCell ⟨g,0,none⟩ v0):=(xg.refl g w).set_ 0 v0
theorem tO (w:World)(g:Nat)(v0 v1:Value):xg g w ((w.setCell ⟨g,0,none⟩ v0).setCell ⟨g,1,none⟩ v1):=(pL w g v0).set_ 1 v1
theorem vA (w:World)(g:Nat)(v0 v1 v2:Value):xg g w (((w.setCell ⟨g,0,none⟩ v0).setCell ⟨g,1,none⟩ v1).setCell ⟨g,2,none⟩ v2):=(tO w g v0 v1).set_ 2 v2
def yb (cs:Array Value):Prop:=∀v ∈ cs.toList,∀k z,v≠.int k z
theorem yb.s1 (q:ze)(r s:Nat):yb #[.slice q r s]:=by intro v hv k z e;simp at hv;subst hv;cases e
theorem yb.s2 (p:Bool)(q:ze)(r s:Nat):yb #[.bool p,.slice q r s]:=by intro v hv k z e;simp at hv;rcases hv with rfl|rfl<;>cases e
theorem yb.s3 (p:Bool)(q:ze)(r s:Nat)(q2:ze)(r2 s2:Nat):yb #[.bool p,.slice q r s,.slice q2 r2 s2]:=by intro v hv k z e;simp at hv;rcases hv with rfl|rfl|rfl<;>cases e
theorem ZQ:yb #[.slice none 0 0]:=yb.s1 _ _ _
theorem sy:yb #[.bool false,.slice none 0 0]:=yb.s2 _ _ _ _
theorem Uu {k:IntKind}{l:List Nat}(h:zL w w.heap.size 1 A n (zt k l))(hk:zh w g t cs)(a:yb cs):0<n->∀ad,A=some ad->ad.block≠g:=λhn ad e hg=>by
 have hl:=h.len_;obtain⟨ad',e',_,hc⟩:=h.2 hn;rw [e] at e';injection e' with e';subst e';have h0:=hc 0 (.int k (l.getD 0 0:Nat)) (kj k _ 0 za);have e0:ad.add 0=ad:=by unfold Addr.add;rw [if_pos rfl]
 rw [e0] at h0;obtain⟨bk,off,pr⟩:=ad;simp only at hg;subst hg;unfold zh at hk;cases pr with
 |none=>
   rw [show w.cell? ⟨bk,off,none⟩=cs[off]? from cell_of_row w bk off _ t (0,0) hk,<-QR] at h0;exact a _ (QY h0) _ _ rfl
 |some q=>simp [World.cell?,hk] at h0
theorem Uv {k:IntKind}{l:List Nat}(h:zL w w.heap.size 1 A n (zt k l))(hk:zh w g t cs)(a:yb cs)(ho:xg g w w'):zL w' w'.heap.size 1 A n (zt k l):=by
 have c:=Uu h hk a;refine⟨h.1,λhn=>?_⟩;obtain⟨ad,e,hb,hc⟩:=h.2 hn;refine⟨ad,e,by rw [ho.1];exact hb,λj v hv=>?_⟩;rw [ho.2 (ad.add j) (by rw [yw];exact c hn ad e)];exact hc j v hv
theorem jj (h:zo w x A n c)(hk:zh w g t cs)(a:yb cs)(ho:xg g w w'):zo w' x A n c:=⟨Uv h.1 hk a ho,h.2⟩
theorem Wo (h:z6 w z b A n c)(hk:zh w g t cs)(a:yb cs)(ho:xg g w w'):z6 w' z b A n c:=⟨h.1,jj h.2 hk a ho⟩
theorem fq {r:Rat}(h:zp w r b A n c E k f)(hk:zh w g t cs)(a:yb cs)(ho:xg g w w'):zp w' r b A n c E k f:=by
 refine⟨Wo h.1 hk a ho,?_⟩;obtain⟨x,e,hx⟩:=h.2;exact⟨x,e,jj hx hk a ho⟩
def zm (K:Nat)(r:Rat):Prop:=xf (18446744073709551616^K) r
theorem zm.up {r:Rat}(h:zm K r)(hk:K<=K'):zm K' r:=xf.up h (qG zf hk)
theorem VV (K K':Nat):2*(18446744073709551616^K*18446744073709551616^K')<=18446744073709551616^(K+K'+1):=by
 rw [qO,xU,qB];exact QW _ zf
theorem zm.add {r:Rat}(h:zm K r)(h':zm K' s):zm (K+K'+1) (r+s):=xf.up (xf.add h h') (VV K K')
theorem zm.sub {r:Rat}(h:zm K r)(h':zm K' s):zm (K+K'+1) (r - s):=xf.up (xf.sub h h') (VV K K')
theorem zm.mul {r:Rat}(h:zm K r)(h':zm K' s):zm (K+K') (r*s):=xf.up (xf.mul h h') (by rw [xU];exact qX _)
theorem zm.div {r:Rat}(h:zm K r)(h':zm K' s):zm (K+K') (r / s):=xf.up (xf.div h h') (by rw [xU];exact qX _)
theorem zm.neg {r:Rat}(h:zm K r):zm K (-r):=xf.neg h
theorem zm.inv {r:Rat}(h:zm K r):zm K r⁻¹:=xf.inv h
theorem zm.abs {r:Rat}(h:zm K r):zm K r.abs:=by
 unfold Rat.abs
 split
 ·exact h
 ·exact h.neg
theorem zm.min {r:Rat}(h:zm K r)(h':zm K' s):zm (K+K') (eI r s):=by
 unfold eI
 split
 ·exact h.up za
 ·exact h'.up za
theorem zm.num {r:Rat}(h:zm K r):Sz K r.num.natAbs:=h.1
theorem zm.den {r:Rat}(h:zm K r):Sz K r.den:=h.2
theorem iH (h:0<K):1<18446744073709551616^K:=Nat.one_lt_pow za zf
theorem zm.whole (h:Sz K z.natAbs)(hK:0<K):zm K (z:Rat):=xf.whole h (iH hK)
theorem zm.made {K:Nat}{p q:Int}(h:Sz K p.natAbs)(h':Sz K q.natAbs)(hK:0<K):zm K (Rat.divInt p q):=xf.made h h' (iH hK)
theorem zm.zero:zm 1 (0:Rat):=⟨zf,zf⟩
theorem zm.fit {r:Rat}(h:zm K r){w:World}{b:Bool}{A:ze}{n c:Nat}{E:ze}{k f:Nat}(hr:zp w r b A n c E k f)(hK:K<=67108864):zV n k:=by
 refine⟨qD (h.num.words hr.1.2) (qD hK zf),?_⟩;obtain⟨x,⟨e,_⟩,hx⟩:=hr.2;have hd:Sz K x:=h.den.of_le (by rw [e];split<;>omega);exact qD (hd.words hx) (qD hK zf)
def ul (D:List Nat)(a0 a:Act):Prop:=a.defers=a0.defers/\a.tmps.size=a0.tmps.size/\∀j,j ∉ D->a.tmps.getD j undef=a0.tmps.getD j undef
theorem ul.refl (D:List Nat)(a:Act):ul D a a:=⟨rfl,rfl,λ_ _=>rfl⟩
theorem nE {j:Nat}(h:j≠i)(v:Value):(a.put (some i) v).tmps.getD j undef=a.tmps.getD j undef:=by
 simp only [Act.put,QG];rw [qK (Ne.symm h)]
theorem ti (h:i<a.tmps.size)(v:Value):(a.put (some i) v).tmps.getD i undef=v:=by
 simp only [Act.put,QG];rw [QZ h];rfl
theorem Za (a:Act)(i:Nat)(v:Value):(a.put (some i) v).tmps.size=a.tmps.size:=by simp [Act.put]
theorem ul.put (h:ul D a0 a){i:Nat}(hi:i ∈ D)(v:Value):ul D a0 (a.put (some i) v):=
 ⟨h.1,by rw [Za];exact h.2.1,λj hj=>(nE (λe=>hj (by rw [e];exact hi)) v).trans (h.2.2 j hj)⟩
theorem ul.get (h:ul D a0 a)(j:Nat)(hj:j ∉ D){v:Value}(hv:a0.tmps.getD j undef=v):a.tmps.getD j undef=v:=(h.2.2 j hj).trans hv
theorem ul.lt (h:ul D a0 a){j:Nat}(hj:j<a0.tmps.size):j<a.tmps.size:=by rw [h.2.1];exact hj
theorem nP {b:Act}(hd:a.defers=b.defers)(hs:a.tmps.size=b.tmps.size)(hg:∀j,a.tmps.getD j undef=b.tmps.getD j undef):a=b:=by
 obtain⟨at_,ad⟩:=a;obtain⟨bt,bd⟩:=b;simp only at hd hs hg;subst hd;congr 1;refine Array.ext hs λj h1 h2=>?_;have:=hg j;simp only [QG,QU h1,QU h2] at this;exact this
def vv (vs:List (Nat×Value))(a:Act):Act:=vs.foldl (λa p=>a.put (some p.1) p.2) a
theorem Vs (vs:List (Nat×Value))(a:Act):(vv vs a).tmps.size=a.tmps.size/\(vv vs a).defers=a.defers:=by
 unfold vv
 induction vs generalizing a with
 |nil=>exact⟨rfl,rfl⟩
 |cons p t ih=>rw [List.foldl_cons];have:=ih (a.put (some p.1) p.2);exact⟨this.1.trans (Za _ _ _),this.2⟩
theorem Oi (vs:List (Nat×Value))(a b:Act)(hs:b.tmps.size=a.tmps.size)(hv:∀p ∈ vs,a.tmps.getD p.1 undef=p.2):∀j,(vv vs b).tmps.getD j undef=if j ∈ vs.map Prod.fst then a.tmps.getD j undef else b.tmps.getD j undef:=by
 intro j
 induction vs generalizing b with
 |nil=>rfl
 |cons p t ih=>
   show(vv t (b.put (some p.1) p.2)).tmps.getD j undef=_;rw [ih (b.put (some p.1) p.2) (by rw [Za];exact hs) (λq hq=>hv q (XW _ hq))];by_cases h1:j ∈ t.map Prod.fst
   ·rw [if_pos h1,if_pos (by rw [yV];exact XW _ h1)]
   ·rw [if_neg h1];by_cases h2:j=p.1
    ·rw [if_pos (by rw [yV,h2];exact XK),h2,hv p XK];by_cases h3:p.1<b.tmps.size
     ·exact ti h3 _
     ·have h4:=hv p XK;have h5:¬ p.1<a.tmps.size:=by rw [<-hs];exact h3
      simp only [QG] at h4⊢;rw [Array.getElem?_eq_none za] at h4;rw [Array.getElem?_eq_none (by rw [Za];omega)];exact h4
    ·rw [if_neg (by rw [yV];intro h;rcases List.mem_cons.1 h with h|h;exact h2 h;exact h1 h)];exact nE h2 _
theorem ul.eq (h:ul D a0 a)(vs:List (Nat×Value))(hD:vs.map Prod.fst=D)(hv:∀p ∈ vs,a.tmps.getD p.1 undef=p.2):a=vv vs a0:=by
 subst hD;refine nP (h.1.trans (Vs vs a0).2.symm) (h.2.1.trans (Vs vs a0).1.symm) λj=>?_;rw [Oi vs a a0 h.2.1.symm hv j];by_cases h1:j ∈ vs.map Prod.fst
 ·rw [if_pos h1]
 ·rw [if_neg h1];exact h.2.2 j h1
section
variable {P:Program}{ops0:Array Oper}{Q:Exit->Act->World->Prop}{md:Region.Mode}{S:World->Prop}
theorem Yd {J:Act->Array Bool->Act->World->Prop}{L:Array Bool}{l0:Array Bool}{w0:World}(hd:tY l0=c)(h0:J a0 l0 a0 w0)
  (g:∀(j:Array Oper) (A0:Act) (Q':Exit->Act->World->Prop),j=ops0->A0.tmps.size=a0.tmps.size->(∀i d,A0.tmps.getD i d=a0.tmps.getD i d)->(∀l a w,J A0 l a w->Region.ready md j l=[]->l=L)/\∀l a w i,J A0 l a w->l≠L->i ∈ Region.ready md j l->wpOp P j Q' i (λa' w'=>S w'/\J A0 (l.setIfInBounds i true) a' w') a w)
  (k:∀a w,J a0 L a w->wpAnyH P md ops0 Q S (tY L) L a w):wpAnyH P md ops0 Q S c l0 a0 w0:=
 Vm (g ops0 a0 Q rfl rfl (λ_ _=>rfl)).1 (g ops0 a0 Q rfl rfl (λ_ _=>rfl)).2 k c l0 a0 w0 hd h0
theorem Zy {c:Array Oper}{o:Oper}{K:Act->World->Prop}(ho:c[i]?=some o)(hg:o.guard=none)
  (h:∀K':Act->World->Prop,Shut (∀a w,K a w->K' a w)->Oper.wp P o a w K' Q):wpOp P c Q i K a w:=
 wpOp_step ho λK' hK=>by
  rw [if_pos (by unfold Region.wanted;rw [hg])];exact h K' hK
theorem fj {o:Oper}{K:Act->World->Prop}{w':World}{v:Value}(h:(execOp a.eval o).run P w=.ok (.value v) w')(hK:K (a.put o.dst v) w'):Oper.wp P o a w K Q:=by
 unfold Oper.wp;rw [h];exact hK
theorem N3 {o:Oper}{K:Act->World->Prop}(ho:o.op=.move (.tmp x)\/o.op=.assign (.tmp x))(hx:a.tmps.getD x undef=v)(hK:K (a.put o.dst v) w):Oper.wp P o a w K Q:=by
 refine fj (v:=v) (w':=w) ?_ hK;unfold execOp;rcases ho with ho|ho<;>rw [ho]<;>simp only [Act.eval,hx]<;>rfl
theorem Ql {o:Oper}{K:Act->World->Prop}{vs:Array Value}(ho:o.op=.extract (.tmp x) k)(hx:a.tmps.getD x undef=.tuple vs)(hk:vs[k]?=some v)(hK:K (a.put o.dst v) w):Oper.wp P o a w K Q:=by
 refine fj (v:=v) (w':=w) ?_ hK;unfold execOp;rw [ho];simp only [Act.eval,hx,Instr.extract,hk];rfl
end
def Cs (w:World):List (Addr×Value)->Prop
 |[]=>True
 |q::t=>w.cell? q.1=some q.2/\Cs w t
theorem zO:Cs w []:=trivial
theorem zk {p:Addr}{l:List (Addr×Value)}(h:w.cell? p=some v)(t:Cs w l):Cs w ((p,v)::l):=⟨h,t⟩
theorem Cs.below {l:List (Addr×Value)}(h:Cs w l)(hb:Below w.heap.size w w'):Cs w' l:=by
 induction l with
 |nil=>trivial
 |cons q t ih=>exact⟨zq hb h.1,ih h.2⟩
theorem Cs.drew {l:List (Addr×Value)}(h:Cs w l):Cs w.drew l:=by
 induction l with
 |nil=>trivial
 |cons q t ih=>exact⟨h.1,ih h.2⟩
def uE (g:Nat):List (Addr×Value)->Prop
 |[]=>True
 |q::t=>q.1.block≠g/\uE g t
theorem Cs.far {l:List (Addr×Value)}(h:Cs w l)(hf:xg g w w')(hn:uE g l):Cs w' l:=by
 induction l with
 |nil=>trivial
 |cons q t ih=>exact⟨(hf.2 q.1 hn.1).trans h.1,ih h.2 hn.2⟩
theorem ZJ {l:List (Addr×Value)}(x y:Value)(h:Cs w l)(hn:uE g l:=by(simp only [uE,and_true];try omega)):Cs ((w.setCell ⟨g,0,none⟩ x).setCell ⟨g,1,none⟩ y) l:=h.far (tO w g x y) hn
theorem vC {l:List (Addr×Value)}(x y z:Value)(h:Cs w l)(hn:uE g l:=by(simp only [uE,and_true];try omega)):Cs (((w.setCell ⟨g,0,none⟩ x).setCell ⟨g,1,none⟩ y).setCell ⟨g,2,none⟩ z) l:=h.far (vA w g x y z) hn
theorem zI:(∀(a:Act) (d:Nat) (v:Value),a.put (some d) v={tmps:=a.tmps.setIfInBounds d v,defers:=a.defers})/\(∀(a:Act) (v:Value),a.put none v=a)/\(∀(l:List Value) (i:Nat) (v:Value),l.toArray.setIfInBounds i v=(l.set i v).toArray)/\(∀(x:Value) (l:List Value) (v:Value),(x::l).set 0 v=v::l)/\(∀(x:Value) (l:List Value) (i:Nat) (v:Value),(x::l).set (i+1) v=x::l.set i v):=
 ⟨λ_ _ _=>rfl,λ_ _=>rfl,λ_ _ _=>qU ..,λ_ _ _=>rfl,λ_ _ _ _=>rfl⟩
section
variable {P:Program}{ops:Array Oper}{Q:Exit->Act->World->Prop}{S:World->Prop}{fuel:Nat}{l:Array Bool}{a:Act}{w:World}
theorem rg {cl:List (Addr×Value)}(h0:Cs w cl)(h:Cs w.drew cl->wpAnyH P .any ops (NoPanic Q) (λw'=>Cs w' cl) ops.size (Array.replicate ops.size false) a w.drew)(hm:P.follows Departure.mixedOrders=true:=by kernel_rfl):Code.wp P (.region id ops true) Q a w:=
 wp_region_noPanic (wp_region_held_drew (S:=λw'=>Cs w' cl) hm h0.drew h)
theorem tk (i:Nat){o:Oper}{v:Value}{a':Act}(hn:wpAnyH P .any ops (NoPanic Q) S fuel (l.setIfInBounds i true) a' w)(h1:ops[i]?=some o:=by simp only [QD,qA,qN];rfl)(h2:Region.noSelect ops=true:=by kernel_rfl)(h3:Region.free .any ops l i=true:=by kernel_rfl)(h4:(Region.ready .any ops l).contains i=true:=by kernel_rfl)(h5:Region.wanted o (yielded ops a.tmps)=true:=by rfl)(h6:∀w,S w->Sem.run P (execOp a.eval o) w=Result.ok (Next.value v) w:=by((intro w c;(try dsimp only [Cs] at c);go_simp);(try with_reducible rfl)))(hS:S w:=by with_reducible assumption)(ha:a.put o.dst v=a':=by(simp only [zI];try rfl)):wpAnyH P .any ops (NoPanic Q) S (fuel+1) l a w:=
 wpAnyH_take h1 h2 h3 h4 (λ_ _ _ h=>h) (Or.inl ⟨h5,h6⟩) hS (ha▸hn)
theorem rc (i:Nat){o:Oper}(hk:∀K':Act->World->Prop,Shut (∀(a:Act) (w:World),S w->(S w->wpAnyH P .any ops (NoPanic Q) S fuel (l.setIfInBounds i true) a w)->K' a w)->Oper.wp P o a w K' (NoPanic Q))(h1:ops[i]?=some o:=by simp only [QD,qA,qN];rfl)(h2:Region.ready .any ops l=[i]:=by kernel_rfl)(h3:Region.wanted o (yielded ops a.tmps)=true:=by rfl):wpAnyH P .any ops (NoPanic Q) S (fuel+1) l a w:=
 wpAnyH_ready h2 zG (AllReadyH.cons h1 (λK' hK=>by rw [if_pos h3];exact hk K' hK) AllReadyH.nil)
theorem z4 (h:Q .normal a w)(hr:Region.ready .any ops l=[]:=by kernel_rfl):wpAnyH P .any ops (NoPanic Q) S fuel l a w:=wpAnyH_done hr (NoPanic.normal h) fuel
variable {ops0:Array Oper}{md:Region.Mode}{i:Nat}
theorem vt (d k:Nat){o:Oper}{e:Edge}(hi:i ∈ Region.ready md ops l)(hO:ops=ops0)(ho:ops0[i]?=some o:=by simp only [QD,qA,qN];rfl)(he:o.after[k]?=some e:=by rfl)(hb:Region.binds md e=true:=by rfl)(hd:e.on=d:=by rfl):l.getD d false=true:=by
 subst hO;subst hd;exact Nk hi ho he hb
theorem uU (i:Nat){o:Oper}(h:Region.ready md ops l=[])(hO:ops=ops0)(ho:ops0[i]?=some o:=by simp only [QD,qA,qN];rfl)(hr:(o.after.toList.all λe=> !Region.binds md e||l.getD e.on false)=true:=by rfl):l.getD i true=true:=by
 subst hO;exact PM h ho hr
theorem uV (i:Nat){L l:Array Bool}(h:L=l):l.getD i false=L.getD i false:=by rw [h]
theorem Gd.off (h:Gd b (false=true)):b=false:=by
 cases b
 ·rfl
 ·exact absurd (h rfl) zf
theorem uX {o:Oper}{K:Act->World->Prop}{Q:Exit->Act->World->Prop}(hO:ops=ops0)(h:∀K':Act->World->Prop,Shut (∀a w,K a w->K' a w)->Oper.wp P o a w K' Q)(ho:ops0[i]?=some o:=by simp only [QD,qA,qN];rfl)(hg:o.guard=none:=by rfl):wpOp P ops Q i K a w:=by
 subst hO;exact Zy ho hg h
theorem ZL {f:Bool}(h:Gd f (a.tmps.getD x undef=u))(hn:x≠i:=by decide):Gd f ((a.put (some i) v).tmps.getD x undef=u):=h.mono λh=>(nE hn _).trans h
theorem kq {f:Bool}{p q:Prop}(h:Gd f (a.tmps.getD x undef=u/\p))(g:p->q)(hn:x≠i:=by decide):Gd f ((a.put (some i) v).tmps.getD x undef=u/\q):=h.mono λh=>⟨(nE hn _).trans h.1,g h.2⟩
end
theorem zh.c1 {x:Value}(h:zh w g t #[x]):w.cell? ⟨g,0,none⟩=some x:=h.cell 0
theorem zh.c2 {x:Value}(h:zh w g t #[x,y]):w.cell? ⟨g,0,none⟩=some x/\w.cell? ⟨g,1,none⟩=some y:=⟨h.cell 0,h.cell 1⟩
theorem zh.c3 {x z:Value}(h:zh w g t #[x,y,z]):w.cell? ⟨g,0,none⟩=some x/\w.cell? ⟨g,1,none⟩=some y/\w.cell? ⟨g,2,none⟩=some z:=⟨h.cell 0,h.cell 1,h.cell 2⟩
theorem bO {a:Value}(h:zh w g t #[a]):w.cell? ⟨g,0,none⟩=some a/\w.frozen? ⟨g,0,none⟩=false:=⟨h.cell 0,h.frozen 0⟩
theorem vh {a b:Value}(h:zh w g t #[a,b])(x:Value):w.cell? ⟨g,0,none⟩=some a/\w.frozen? ⟨g,0,none⟩=false/\(w.setCell ⟨g,0,none⟩ x).cell? ⟨g,1,none⟩=some b/\(w.setCell ⟨g,0,none⟩ x).frozen? ⟨g,1,none⟩=false:=⟨h.cell 0,h.frozen 0,(h.set_ 0 x).cell 1,(h.set_ 0 x).frozen 1⟩
theorem yf {a b c:Value}(h:zh w g t #[a,b,c])(x y:Value):w.cell? ⟨g,0,none⟩=some a/\w.frozen? ⟨g,0,none⟩=false/\(w.setCell ⟨g,0,none⟩ x).cell? ⟨g,1,none⟩=some b/\(w.setCell ⟨g,0,none⟩ x).frozen? ⟨g,1,none⟩=false/\((w.setCell ⟨g,0,none⟩ x).setCell ⟨g,1,none⟩ y).cell? ⟨g,2,none⟩=some c/\((w.setCell ⟨g,0,none⟩ x).setCell ⟨g,1,none⟩ y).frozen? ⟨g,2,none⟩=false:=
 ⟨h.cell 0,h.frozen 0,(h.set_ 0 x).cell 1,(h.set_ 0 x).frozen 1,((h.set_ 0 x).set_ 1 y).cell 2,((h.set_ 0 x).set_ 1 y).frozen 2⟩
theorem eS {a:Value}(h:zh w g t #[a])(x:Value):zh (w.setCell ⟨g,0,none⟩ x) g t #[x]:=h.set_ 0 x
theorem vg {a b:Value}(h:zh w g t #[a,b])(x y:Value):zh ((w.setCell ⟨g,0,none⟩ x).setCell ⟨g,1,none⟩ y) g t #[x,y]:=(h.set_ 0 x).set_ 1 y
theorem ym {a b c:Value}(h:zh w g t #[a,b,c])(x y z:Value):zh (((w.setCell ⟨g,0,none⟩ x).setCell ⟨g,1,none⟩ y).setCell ⟨g,2,none⟩ z) g t #[x,y,z]:=((h.set_ 0 x).set_ 1 y).set_ 2 z
theorem nR (x:Value)(hg:w.heap.size<=g)(h:Below w.heap.size w W):Below w.heap.size w (W.setCell ⟨g,0,none⟩ x):=zB x hg h
theorem nS (x y:Value)(hg:w.heap.size<=g)(h:Below w.heap.size w W):Below w.heap.size w ((W.setCell ⟨g,0,none⟩ x).setCell ⟨g,1,none⟩ y):=zB y hg (zB x hg h)
theorem tw (x y z:Value)(hg:w.heap.size<=g)(h:Below w.heap.size w W):Below w.heap.size w (((W.setCell ⟨g,0,none⟩ x).setCell ⟨g,1,none⟩ y).setCell ⟨g,2,none⟩ z):=zB z hg (nS x y hg h)
theorem WJ {q:ze}{r s:Nat}(h:zo W x A n c)(k:zh W g t #[.slice q r s])(hB:Below w.heap.size w W)(hg:w.heap.size<=g):iQ w x (.returned (.agg #[.slice A n c])) (W.setCell ⟨g,0,none⟩ (.slice A n c)):=
 ⟨_,_,_,rfl,jj h k (yb.s1 _ _ _) (pL _ _ _),nR _ hg hB⟩
theorem ZK {q:ze}{r s:Nat}(h:z6 W z b A n c)(k:zh W g t #[.bool p,.slice q r s])(hB:Below w.heap.size w W)(hg:w.heap.size<=g):ww w z (.returned (.agg #[.bool b,.slice A n c])) ((W.setCell ⟨g,0,none⟩ (.bool b)).setCell ⟨g,1,none⟩ (.slice A n c)):=
 ⟨_,_,_,_,rfl,Wo h k (yb.s2 _ _ _ _) (tO _ _ _ _),nS _ _ hg hB⟩
theorem vp {r:Rat}{q q2:ze}{r1 s r2 s2:Nat}(h:zp W r b A n c E k f)(kd:zh W g t #[.bool p,.slice q r1 s,.slice q2 r2 s2])(hB:Below w.heap.size w W)(hg:w.heap.size<=g):yp w r (.returned (.agg #[.bool b,.slice A n c,.slice E k f])) (((W.setCell ⟨g,0,none⟩ (.bool b)).setCell ⟨g,1,none⟩ (.slice A n c)).setCell ⟨g,2,none⟩ (.slice E k f)):=
 ⟨_,_,_,_,_,_,_,rfl,fq h kd (yb.s3 _ _ _ _ _ _ _) (vA _ _ _ _ _),tw _ _ _ hg hB⟩
theorem kR {r:Rat}(u:Bool){g:Nat}{t:TypeId}{b:Bool}{A E:ze}{n c k f:Nat}{p:Bool}{q q2:ze}{r1 s r2 s2:Nat}(h:zp W r b A n c E k f)(kd:zh W g t #[.bool p,.slice q r1 s,.slice q2 r2 s2])(hB:Below w.heap.size w W)(hg:w.heap.size<=g):uK w r u (.returned (.tuple #[.agg #[.bool b,.slice A n c,.slice E k f],.bool u])) (((W.setCell ⟨g,0,none⟩ (.bool b)).setCell ⟨g,1,none⟩ (.slice A n c)).setCell ⟨g,2,none⟩ (.slice E k f)):=
 ⟨_,_,_,_,_,_,_,rfl,fq h kd (yb.s3 _ _ _ _ _ _ _) (vA _ _ _ _ _),tw _ _ _ hg hB⟩
section
variable {P:Program}{ops:Array Oper}{Q:Exit->Act->World->Prop}{S:World->Prop}{fuel:Nat}{l:Array Bool}{a:Act}{w:World}
theorem tC (h:Below w.heap.size w w.drew->wpAnyH P .any ops (NoPanic Q) (λw'=>Below w.heap.size w w') ops.size (Array.replicate ops.size false) a w.drew)(hm:P.follows Departure.mixedOrders=true:=by kernel_rfl):Code.wp P (.region id ops true) Q a w:=
 wp_region_noPanic (wp_region_held_drew (S:=λw'=>Below w.heap.size w w') hm (qZ _ w).drew h)
theorem tl (i:Nat){cl:List (Addr×Value)}(hc:∀w,S w->Cs w cl){o:Oper}{v:Value}{a':Act}(hn:wpAnyH P .any ops (NoPanic Q) S fuel (l.setIfInBounds i true) a' w)(h1:ops[i]?=some o:=by simp only [QD,qA,qN];rfl)(h2:Region.noSelect ops=true:=by kernel_rfl)(h3:Region.free .any ops l i=true:=by kernel_rfl)(h4:(Region.ready .any ops l).contains i=true:=by kernel_rfl)(h5:Region.wanted o (yielded ops a.tmps)=true:=by rfl)(h6:∀w,Cs w cl->Sem.run P (execOp a.eval o) w=Result.ok (Next.value v) w:=by((intro w c;(try dsimp only [Cs] at c);go_simp);(try with_reducible rfl)))(hS:S w:=by with_reducible assumption)(ha:a.put o.dst v=a':=by(simp only [zI];try rfl)):wpAnyH P .any ops (NoPanic Q) S (fuel+1) l a w:=
 wpAnyH_take h1 h2 h3 h4 (λ_ _ _ h=>h) (Or.inl ⟨h5,λw hs=>h6 w (hc w hs)⟩) hS (ha▸hn)
end
theorem yz (h:zd (Sz K x))(k:zo w x A n c)(e:K<=B:=by omega):n<=B:=qD (h.o.words k) e
theorem y9 {K:Nat}(h:zd (Sz K z.natAbs))(k:z6 w z b A n c)(e:K<=B:=by omega):n<=B:=qD (h.o.words k.words) e
theorem szq {r:Rat}(h:zd (zm K r))(q:zp w r b A n c E k f)(e:K<=67108864:=by omega):zV n k:=zm.fit h.o q e
