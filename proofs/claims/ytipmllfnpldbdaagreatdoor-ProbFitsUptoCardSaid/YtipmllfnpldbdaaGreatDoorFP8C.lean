/- What this claim leans on. -/
import Derived.Test.YtipmllfnpldbdaaGreatDoorFBunB
set_option linter.unusedVariables false
set_option linter.unusedSimpArgs false
namespace Go.Proofs.YtipmllfnpldbdaaGreatDoor
open Go Go.RowKit Go.Proofs.Tryz
set_option maxHeartbeats 16000000
variable {a a0:Act}{cs:Array Value}{b:Bool}{z:Int}{D:List Nat}{K K' c f g i k n x:Nat}{t:TypeId}{v:Value}{w w':World}{A E:zf}
def vC (w:World)(q:Nat)(A:zf)(n c:Nat):Prop:=∃x,(q=(if x=0 then 1 else x)/\x≠1)/\zo w x A n c
theorem vC.below {q:Nat}(h:vC w q A n c)(hb:Below w.heap.size w w'):vC w' q A n c:=by
 obtain⟨x,e,h1⟩:=h;exact⟨x,e,h1.below hb⟩
def zt (w:World)(r:Rat)(b:Bool)(A:zf)(n c:Nat)(E:zf)(k f:Nat):Prop:=zN w r.num b A n c/\vC w r.den E k f
theorem zt.below {r:Rat}(h:zt w r b A n c E k f)(hb:Below w.heap.size w w'):zt w' r b A n c E k f:=⟨h.1.below hb,h.2.below hb⟩
theorem zt.to {r s:Rat}(e:r=s)(h:zt w r b A n c E k f):zt w s b A n c E k f:=e▸h
def yc (w:World)(r:Rat)(e:Ending)(w':World):Prop:=∃(b:Bool) (A:zf) (n c:Nat) (E:zf) (k f:Nat),e=.returned (.agg #[.bool b,.slice A n c,.slice E k f])/\zt w' r b A n c E k f/\Below w.heap.size w w'
def x6 (w:World)(r:Rat)(t:Bool)(e:Ending)(w':World):Prop:=∃(b:Bool) (A:zf) (n c:Nat) (E:zf) (k f:Nat),e=.returned (.tuple #[.agg #[.bool b,.slice A n c,.slice E k f],.bool t])/\zt w' r b A n c E k f/\Below w.heap.size w w'
def zI (n k:Nat):Prop:=n<=67108864/\k<=67108864
structure pW (T:World->Prop):Prop where
 mul:∀(r s:Rat) (b b':Bool) (A A':zf) (n n' c c':Nat) (E E':zf) (k k' f f':Nat) (w:World),T w->zt w r b A n c E k f->zt w s b' A' n' c' E' k' f'->zI n k->zI n' k'->Calls prog 63 #[.agg #[.bool b,.slice A n c,.slice E k f],.agg #[.bool b',.slice A' n' c',.slice E' k' f']] w (yc w (r*s))
 div:∀(r s:Rat) (b b':Bool) (A A':zf) (n n' c c':Nat) (E E':zf) (k k' f f':Nat) (w:World),T w->zt w r b A n c E k f->zt w s b' A' n' c' E' k' f'->zI n k->zI n' k'->s≠0->Calls prog 73 #[.agg #[.bool b,.slice A n c,.slice E k f],.agg #[.bool b',.slice A' n' c',.slice E' k' f']] w (x6 w (r / s) true)
 divNo:∀(r s:Rat) (b b':Bool) (A A':zf) (n n' c c':Nat) (E E':zf) (k k' f f':Nat) (w:World),T w->zt w r b A n c E k f->zt w s b' A' n' c' E' k' f'->zI n k->zI n' k'->s=0->Calls prog 73 #[.agg #[.bool b,.slice A n c,.slice E k f],.agg #[.bool b',.slice A' n' c',.slice E' k' f']] w (x6 w 0 false)
structure pX (T:World->Prop):Prop where
 min:∀(r s:Rat) (b b':Bool) (A A':zf) (n n' c c':Nat) (E E':zf) (k k' f f':Nat) (w:World),T w->zt w r b A n c E k f->zt w s b' A' n' c' E' k' f'->zI n k->zI n' k'->Calls prog 41 #[.agg #[.bool b,.slice A n c,.slice E k f],.agg #[.bool b',.slice A' n' c',.slice E' k' f']] w (yc w (o6 r s))
 max:∀(r s:Rat) (b b':Bool) (A A':zf) (n n' c c':Nat) (E E':zf) (k k' f f':Nat) (w:World),T w->zt w r b A n c E k f->zt w s b' A' n' c' E' k' f'->zI n k->zI n' k'->Calls prog 42 #[.agg #[.bool b,.slice A n c,.slice E k f],.agg #[.bool b',.slice A' n' c',.slice E' k' f']] w (yc w (jv r s))
structure pY (T:World->Prop):Prop where
 int:∀(z:Int) (w:World),T w-> -9223372036854775808<=z->z<=9223372036854775807->Calls prog 36 #[.int .i64 z] w (yc w (z:Rat))
structure oJ (T:World->Prop)(M:Nat->Prop):Prop where
 g0:M 0->pW T
 g1:M 1->pX T
 g2:M 2->pY T
 new:∀(p q:Int) (b b':Bool) (A D:zf) (n m c d:Nat) (w:World),T w->zN w p b A n c->zN w q b' D m d->n<=67108864->m<=67108864->q≠0->Calls prog 77 #[.agg #[.bool b,.slice A n c],.agg #[.bool b',.slice D m d]] w (x6 w (Rat.divInt p q) true)
 newNo:∀(p q:Int) (b b':Bool) (A D:zf) (n m c d:Nat) (w:World),T w->zN w p b A n c->zN w q b' D m d->n<=67108864->m<=67108864->q=0->Calls prog 77 #[.agg #[.bool b,.slice A n c],.agg #[.bool b',.slice D m d]] w (x6 w 0 false)
 of:∀(p q:Int) (w:World),T w-> -9223372036854775808<=p->p<=9223372036854775807-> -9223372036854775808<=q->q<=9223372036854775807->q≠0->Calls prog 38 #[.int .i64 p,.int .i64 q] w (x6 w (Rat.divInt p q) true)
 ofNo:∀(p q:Int) (w:World),T w-> -9223372036854775808<=p->p<=9223372036854775807->q=0->Calls prog 38 #[.int .i64 p,.int .i64 q] w (x6 w 0 false)
 num:∀(r:Rat) (b:Bool) (A:zf) (n c:Nat) (E:zf) (k f:Nat) (w:World),T w->zt w r b A n c E k f->zI n k->Calls prog 50 #[.agg #[.bool b,.slice A n c,.slice E k f]] w (yu w r.num)
 den:∀(r:Rat) (b:Bool) (A:zf) (n c:Nat) (E:zf) (k f:Nat) (w:World),T w->zt w r b A n c E k f->zI n k->Calls prog 52 #[.agg #[.bool b,.slice A n c,.slice E k f]] w (nB w r.den)
 sign:∀(r:Rat) (b:Bool) (A:zf) (n c:Nat) (E:zf) (k f:Nat) (w:World),T w->zt w r b A n c E k f->zI n k->Calls prog 61 #[.agg #[.bool b,.slice A n c,.slice E k f]] w (wI w (vz r))
 zero:∀(r:Rat) (b:Bool) (A:zf) (n c:Nat) (E:zf) (k f:Nat) (w:World),T w->zt w r b A n c E k f->zI n k->Calls prog 66 #[.agg #[.bool b,.slice A n c,.slice E k f]] w λe w'=>e=.returned (.bool (decide (r=0)))/\Below w.heap.size w w'
 isInt:∀(r:Rat) (b:Bool) (A:zf) (n c:Nat) (E:zf) (k f:Nat) (w:World),T w->zt w r b A n c E k f->zI n k->Calls prog 68 #[.agg #[.bool b,.slice A n c,.slice E k f]] w λe w'=>e=.returned (.bool (decide (r.den=1)))/\Below w.heap.size w w'
 neg:∀(r:Rat) (b:Bool) (A:zf) (n c:Nat) (E:zf) (k f:Nat) (w:World),T w->zt w r b A n c E k f->zI n k->Calls prog 79 #[.agg #[.bool b,.slice A n c,.slice E k f]] w (yc w (-r))
 inv:∀(r:Rat) (b:Bool) (A:zf) (n c:Nat) (E:zf) (k f:Nat) (w:World),T w->zt w r b A n c E k f->zI n k->r≠0->Calls prog 102 #[.agg #[.bool b,.slice A n c,.slice E k f]] w (x6 w r⁻¹ true)
 invNo:∀(r:Rat) (b:Bool) (A:zf) (n c:Nat) (E:zf) (k f:Nat) (w:World),T w->zt w r b A n c E k f->zI n k->r=0->Calls prog 102 #[.agg #[.bool b,.slice A n c,.slice E k f]] w (x6 w 0 false)
 add:∀(r s:Rat) (b b':Bool) (A A':zf) (n n' c c':Nat) (E E':zf) (k k' f f':Nat) (w:World),T w->zt w r b A n c E k f->zt w s b' A' n' c' E' k' f'->zI n k->zI n' k'->Calls prog 27 #[.agg #[.bool b,.slice A n c,.slice E k f],.agg #[.bool b',.slice A' n' c',.slice E' k' f']] w (yc w (r+s))
 sub:∀(r s:Rat) (b b':Bool) (A A':zf) (n n' c c':Nat) (E E':zf) (k k' f f':Nat) (w:World),T w->zt w r b A n c E k f->zt w s b' A' n' c' E' k' f'->zI n k->zI n' k'->Calls prog 40 #[.agg #[.bool b,.slice A n c,.slice E k f],.agg #[.bool b',.slice A' n' c',.slice E' k' f']] w (yc w (r - s))
 cmp:∀(r s:Rat) (b b':Bool) (A A':zf) (n n' c c':Nat) (E E':zf) (k k' f f':Nat) (w:World),T w->zt w r b A n c E k f->zt w s b' A' n' c' E' k' f'->zI n k->zI n' k'->Calls prog 25 #[.agg #[.bool b,.slice A n c,.slice E k f],.agg #[.bool b',.slice A' n' c',.slice E' k' f']] w (wI w (xp r s))
 same:∀(r s:Rat) (b b':Bool) (A A':zf) (n n' c c':Nat) (E E':zf) (k k' f f':Nat) (w:World),T w->zt w r b A n c E k f->zt w s b' A' n' c' E' k' f'->zI n k->zI n' k'->Calls prog 26 #[.agg #[.bool b,.slice A n c,.slice E k f],.agg #[.bool b',.slice A' n' c',.slice E' k' f']] w λe w'=>e=.returned (.bool (decide (r=s)))/\Below w.heap.size w w'
def xe (g:Nat)(w w':World):Prop:=w'.heap.size=w.heap.size/\∀p:Addr,p.block≠g->w'.cell? p=w.cell? p
theorem xe.refl (g:Nat)(w:World):xe g w w:=⟨rfl,λ_ _=>rfl⟩
theorem xe.set_ (h:xe g w w')(j:Nat)(v:Value):xe g w (w'.setCell ⟨g,j,none⟩ v):=
 ⟨by rw [<-h.1];simp,λp hp=>(yD w' ⟨g,j,none⟩ p v (λe=>hp (by first|rw [e]|rw [<-e]))).trans (h.2 p hp)⟩
theorem qz (w:World)(g:Nat)(v0:Value):xe g w (w.setCell ⟨g,0,none⟩ v0):=(xe.refl g w).set_ 0 v0
theorem wU (w:World)(g:Nat)(v0 v1:Value):xe g w ((w.setCell ⟨g,0,none⟩ v0).setCell ⟨g,1,none⟩ v1):=(qz w g v0).set_ 1 v1
theorem wV (w:World)(g:Nat)(v0 v1 v2:Value):xe g w (((w.setCell ⟨g,0,none⟩ v0).setCell ⟨g,1,none⟩ v1).setCell ⟨g,2,none⟩ v2):=(wU w g v0 v1).set_ 2 v2
def ye (cs:Array Value):Prop:=∀v ∈ cs.toList,∀k z,v≠.int k z
theorem ye.s1 (q:zf)(r s:Nat):ye #[.slice q r s]:=by intro v hv k z e;simp at hv;subst hv;cases e
theorem ye.s2 (p:Bool)(q:zf)(r s:Nat):ye #[.bool p,.slice q r s]:=by intro v hv k z e;simp at hv;rcases hv with rfl|rfl<;>cases e
theorem ye.s3 (p:Bool)(q:zf)(r s:Nat)(q2:zf)(r2 s2:Nat):ye #[.bool p,.slice q r s,.slice q2 r2 s2]:=by intro v hv k z e;simp at hv;rcases hv with rfl|rfl|rfl<;>cases e
theorem jy:ye #[.slice none 0 0]:=ye.s1 _ _ _
theorem jz:ye #[.bool false,.slice none 0 0]:=ye.s2 _ _ _ _
theorem eU {k:IntKind}{l:List Nat}(h:zE w w.heap.size 1 A n (zv k l))(hk:zi w g t cs)(a:ye cs):0<n->∀ad,A=some ad->ad.block≠g:=λhn ad e hg=>by
 have hl:=h.len_;obtain⟨ad',e',_,hc⟩:=h.2 hn;rw [e] at e';injection e' with e';subst e';have h0:=hc 0 (.int k (l.getD 0 0:Nat)) (ot k _ 0 za);have e0:ad.add 0=ad:=by unfold Addr.add;rw [if_pos rfl]
 rw [e0] at h0;obtain⟨bk,off,pr⟩:=ad;simp only at hg;subst hg;unfold zi at hk;cases pr with
 |none=>
   rw [show w.cell? ⟨bk,off,none⟩=cs[off]? from cell_of_row w bk off _ t (0,0) hk,<-QL] at h0;exact a _ (QA h0) _ _ rfl
 |some q=>simp [World.cell?,hk] at h0
theorem Wq {k:IntKind}{l:List Nat}(h:zE w w.heap.size 1 A n (zv k l))(hk:zi w g t cs)(a:ye cs)(ho:xe g w w'):zE w' w'.heap.size 1 A n (zv k l):=by
 have d:=eU h hk a;refine⟨h.1,λhn=>?_⟩;obtain⟨ad,e,hb,hc⟩:=h.2 hn;refine⟨ad,e,by rw [ho.1];exact hb,λj v hv=>?_⟩;rw [ho.2 (ad.add j) (by rw [y9];exact d hn ad e)];exact hc j v hv
theorem ou (h:zo w x A n c)(hk:zi w g t cs)(a:ye cs)(ho:xe g w w'):zo w' x A n c:=⟨Wq h.1 hk a ho,h.2⟩
theorem iE (h:zN w z b A n c)(hk:zi w g t cs)(a:ye cs)(ho:xe g w w'):zN w' z b A n c:=⟨h.1,ou h.2 hk a ho⟩
theorem pO {r:Rat}(h:zt w r b A n c E k f)(hk:zi w g t cs)(a:ye cs)(ho:xe g w w'):zt w' r b A n c E k f:=by
 refine⟨iE h.1 hk a ho,?_⟩;obtain⟨x,e,hx⟩:=h.2;exact⟨x,e,ou hx hk a ho⟩
def zp (K:Nat)(r:Rat):Prop:=yj (18446744073709551616^K) r
theorem zp.up {r:Rat}(h:zp K r)(hk:K<=K'):zp K' r:=yj.up h (qL zh hk)
theorem ee (K K':Nat):2*(18446744073709551616^K*18446744073709551616^K')<=18446744073709551616^(K+K'+1):=by
 rw [qT,xU,qE];exact QV _ zh
theorem zp.add {r s:Rat}(h:zp K r)(h':zp K' s):zp (K+K'+1) (r+s):=yj.up (yj.add h h') (ee K K')
theorem zp.sub {r s:Rat}(h:zp K r)(h':zp K' s):zp (K+K'+1) (r - s):=yj.up (yj.sub h h') (ee K K')
theorem zp.mul {r s:Rat}(h:zp K r)(h':zp K' s):zp (K+K') (r*s):=yj.up (yj.mul h h') (by rw [xU];exact qX _)
theorem zp.neg {r:Rat}(h:zp K r):zp K (-r):=yj.neg h
theorem zp.inv {r:Rat}(h:zp K r):zp K r⁻¹:=yj.inv h
theorem zp.abs {r:Rat}(h:zp K r):zp K r.abs:=by
 unfold Rat.abs
 split
 ·exact h
 ·exact h.neg
theorem zp.min {r s:Rat}(h:zp K r)(h':zp K' s):zp (K+K') (o6 r s):=by
 unfold o6
 split
 ·exact h.up za
 ·exact h'.up za
theorem zp.num {r:Rat}(h:zp K r):Sz K r.num.natAbs:=h.1
theorem zp.den {r:Rat}(h:zp K r):Sz K r.den:=h.2
theorem kO (h:0<K):1<18446744073709551616^K:=Nat.one_lt_pow za zh
theorem zp.whole (h:Sz K z.natAbs)(hK:0<K):zp K (z:Rat):=yj.whole h (kO hK)
theorem zp.made {K:Nat}{p q:Int}(h:Sz K p.natAbs)(h':Sz K q.natAbs)(hK:0<K):zp K (Rat.divInt p q):=yj.made h h' (kO hK)
theorem zp.zero:zp 1 (0:Rat):=⟨zh,zh⟩
theorem zp.fit {r:Rat}(h:zp K r){w:World}{b:Bool}{A:zf}{n c:Nat}{E:zf}{k f:Nat}(hr:zt w r b A n c E k f)(hK:K<=67108864):zI n k:=by
 refine⟨qA (h.num.words hr.1.2) (qA hK zh),?_⟩;obtain⟨x,⟨e,_⟩,hx⟩:=hr.2;have hd:Sz K x:=h.den.of_le (by rw [e];split<;>omega);exact qA (hd.words hx) (qA hK zh)
def uq (D:List Nat)(a0 a:Act):Prop:=a.defers=a0.defers/\a.tmps.size=a0.tmps.size/\∀j,j ∉ D->a.tmps.getD j undef=a0.tmps.getD j undef
theorem uq.refl (D:List Nat)(a:Act):uq D a a:=⟨rfl,rfl,λ_ _=>rfl⟩
theorem oF {j:Nat}(h:j≠i)(v:Value):(a.put (some i) v).tmps.getD j undef=a.tmps.getD j undef:=by
 simp only [Act.put,QZ];rw [qC (Ne.symm h)]
theorem sk (h:i<a.tmps.size)(v:Value):(a.put (some i) v).tmps.getD i undef=v:=by
 simp only [Act.put,QZ];rw [QO h];rfl
theorem kW (a:Act)(i:Nat)(v:Value):(a.put (some i) v).tmps.size=a.tmps.size:=by simp [Act.put]
theorem uq.put (h:uq D a0 a){i:Nat}(hi:i ∈ D)(v:Value):uq D a0 (a.put (some i) v):=
 ⟨h.1,by rw [kW];exact h.2.1,λj hj=>(oF (λe=>hj (by rw [e];exact hi)) v).trans (h.2.2 j hj)⟩
theorem uq.get (h:uq D a0 a)(j:Nat)(hj:j ∉ D){v:Value}(hv:a0.tmps.getD j undef=v):a.tmps.getD j undef=v:=(h.2.2 j hj).trans hv
theorem uq.lt (h:uq D a0 a){j:Nat}(hj:j<a0.tmps.size):j<a.tmps.size:=by rw [h.2.1];exact hj
theorem rP {b:Act}(hd:a.defers=b.defers)(hs:a.tmps.size=b.tmps.size)(hg:∀j,a.tmps.getD j undef=b.tmps.getD j undef):a=b:=by
 obtain⟨at_,ad⟩:=a;obtain⟨bt,bd⟩:=b;simp only at hd hs hg;subst hd;congr 1;refine Array.ext hs λj h1 h2=>?_;have:=hg j;simp only [QZ,QQ h1,QQ h2] at this;exact this
def uh (vs:List (Nat×Value))(a:Act):Act:=vs.foldl (λa p=>a.put (some p.1) p.2) a
theorem fB (vs:List (Nat×Value))(a:Act):(uh vs a).tmps.size=a.tmps.size/\(uh vs a).defers=a.defers:=by
 unfold uh
 induction vs generalizing a with
 |nil=>exact⟨rfl,rfl⟩
 |cons p t ih=>rw [List.foldl_cons];have:=ih (a.put (some p.1) p.2);exact⟨this.1.trans (kW _ _ _),this.2⟩
theorem Yh (vs:List (Nat×Value))(a b:Act)(hs:b.tmps.size=a.tmps.size)(hv:∀p ∈ vs,a.tmps.getD p.1 undef=p.2):∀j,(uh vs b).tmps.getD j undef=if j ∈ vs.map Prod.fst then a.tmps.getD j undef else b.tmps.getD j undef:=by
 intro j
 induction vs generalizing b with
 |nil=>rfl
 |cons p t ih=>
   show(uh t (b.put (some p.1) p.2)).tmps.getD j undef=_;rw [ih (b.put (some p.1) p.2) (by rw [kW];exact hs) (λq hq=>hv q (yE _ hq))];by_cases h1:j ∈ t.map Prod.fst
   ·rw [if_pos h1,if_pos (by rw [YJ];exact yE _ h1)]
   ·rw [if_neg h1];by_cases h2:j=p.1
    ·rw [if_pos (by rw [YJ,h2];exact yV),h2,hv p yV];by_cases h3:p.1<b.tmps.size
     ·exact sk h3 _
     ·have h4:=hv p yV;have h5:¬ p.1<a.tmps.size:=by rw [<-hs];exact h3
      simp only [QZ] at h4⊢;rw [Array.getElem?_eq_none za] at h4;rw [Array.getElem?_eq_none (by rw [kW];omega)];exact h4
    ·rw [if_neg (by rw [YJ];intro h;rcases List.mem_cons.1 h with h|h;exact h2 h;exact h1 h)];exact oF h2 _
theorem uq.eq (h:uq D a0 a)(vs:List (Nat×Value))(hD:vs.map Prod.fst=D)(hv:∀p ∈ vs,a.tmps.getD p.1 undef=p.2):a=uh vs a0:=by
 subst hD;refine rP (h.1.trans (fB vs a0).2.symm) (h.2.1.trans (fB vs a0).1.symm) λj=>?_;rw [Yh vs a a0 h.2.1.symm hv j];by_cases h1:j ∈ vs.map Prod.fst
 ·rw [if_pos h1]
 ·rw [if_neg h1];exact h.2.2 j h1
section
variable {P:Program}{ops0:Array Oper}{Q:Exit->Act->World->Prop}{md:Region.Mode}{S:World->Prop}
theorem iF {d:Array Oper}{o:Oper}{K:Act->World->Prop}(ho:d[i]?=some o)(hg:o.guard=none)
  (h:∀K':Act->World->Prop,Shut (∀a w,K a w->K' a w)->Oper.wp P o a w K' Q):wpOp P d Q i K a w:=
 wpOp_step ho λK' hK=>by
  rw [if_pos (by unfold Region.wanted;rw [hg])];exact h K' hK
theorem dM {o:Oper}{K:Act->World->Prop}{w':World}{v:Value}(h:(execOp a.eval o).run P w=.ok (.value v) w')(hK:K (a.put o.dst v) w'):Oper.wp P o a w K Q:=by
 unfold Oper.wp;rw [h];exact hK
theorem Vi {o:Oper}{K:Act->World->Prop}(ho:o.op=.move (.tmp x)\/o.op=.assign (.tmp x))(hx:a.tmps.getD x undef=v)(hK:K (a.put o.dst v) w):Oper.wp P o a w K Q:=by
 refine dM (v:=v) (w':=w) ?_ hK;unfold execOp;rcases ho with ho|ho<;>rw [ho]<;>simp only [Act.eval,hx]<;>rfl
theorem ZJ {o:Oper}{K:Act->World->Prop}{vs:Array Value}(ho:o.op=.extract (.tmp x) k)(hx:a.tmps.getD x undef=.tuple vs)(hk:vs[k]?=some v)(hK:K (a.put o.dst v) w):Oper.wp P o a w K Q:=by
 refine dM (v:=v) (w':=w) ?_ hK;unfold execOp;rw [ho];simp only [Act.eval,hx,Instr.extract,hk];rfl
end
