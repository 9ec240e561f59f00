/- What this claim leans on. -/
import Derived.Test.YtdfdjfiognhbgaaGreatDoorDBunF
set_option linter.unusedVariables false
set_option linter.unusedSimpArgs false
namespace Go.Proofs.YtdfdjfiognhbgaaGreatDoor
open Go Go.RowKit Go.Proofs.Tryz
set_option maxHeartbeats 16000000
variable {a a0:Act}{cs:Array Value}{b p:Bool}{z:Int}{D:List Nat}{B K K' c f g i id k n x:Nat}{s:Rat}{t:TypeId}{u v y:Value}{W W' w w':World}{A E:ze}
def uZ (w:World)(q:Nat)(A:ze)(n c:Nat):Prop:=∃x,(q=(if x=0 then 1 else x)/\x≠1)/\zn w x A n c
theorem uZ.below {q:Nat}(h:uZ w q A n c)(hb:Below w.heap.size w w'):uZ w' q A n c:=by
 obtain⟨x,e,h1⟩:=h;exact⟨x,e,h1.below hb⟩
def zo (w:World)(r:Rat)(b:Bool)(A:ze)(n c:Nat)(E:ze)(k f:Nat):Prop:=zZ w r.num b A n c/\uZ w r.den E k f
theorem zo.below {r:Rat}(h:zo w r b A n c E k f)(hb:Below w.heap.size w w'):zo w' r b A n c E k f:=⟨h.1.below hb,h.2.below hb⟩
theorem zo.to {r:Rat}(e:r=s)(h:zo w r b A n c E k f):zo w s b A n c E k f:=e▸h
def xe (w:World)(r:Rat)(e:Ending)(w':World):Prop:=∃(b:Bool) (A:ze) (n c:Nat) (E:ze) (k f:Nat),e=.returned (.agg #[.bool b,.slice A n c,.slice E k f])/\zo w' r b A n c E k f/\Below w.heap.size w w'
def vU (w:World)(r:Rat)(t:Bool)(e:Ending)(w':World):Prop:=∃(b:Bool) (A:ze) (n c:Nat) (E:ze) (k f:Nat),e=.returned (.tuple #[.agg #[.bool b,.slice A n c,.slice E k f],.bool t])/\zo w' r b A n c E k f/\Below w.heap.size w w'
def zQ (n k:Nat):Prop:=n<=67108864/\k<=67108864
structure lu (T:World->Prop):Prop where
 mul:∀(r s:Rat) (b b':Bool) (A A':ze) (n n' c c':Nat) (E E':ze) (k k' f f':Nat) (w:World),T w->zo w r b A n c E k f->zo w s b' A' n' c' E' k' f'->zQ n k->zQ n' k'->Calls prog 82 #[.agg #[.bool b,.slice A n c,.slice E k f],.agg #[.bool b',.slice A' n' c',.slice E' k' f']] w (xe w (r*s))
 div:∀(r s:Rat) (b b':Bool) (A A':ze) (n n' c c':Nat) (E E':ze) (k k' f f':Nat) (w:World),T w->zo w r b A n c E k f->zo w s b' A' n' c' E' k' f'->zQ n k->zQ n' k'->s≠0->Calls prog 35 #[.agg #[.bool b,.slice A n c,.slice E k f],.agg #[.bool b',.slice A' n' c',.slice E' k' f']] w (vU w (r / s) true)
 divNo:∀(r s:Rat) (b b':Bool) (A A':ze) (n n' c c':Nat) (E E':ze) (k k' f f':Nat) (w:World),T w->zo w r b A n c E k f->zo w s b' A' n' c' E' k' f'->zQ n k->zQ n' k'->s=0->Calls prog 35 #[.agg #[.bool b,.slice A n c,.slice E k f],.agg #[.bool b',.slice A' n' c',.slice E' k' f']] w (vU w 0 false)
structure lv (T:World->Prop):Prop where
structure lw (T:World->Prop):Prop where
 int:∀(z:Int) (w:World),T w-> -9223372036854775808<=z->z<=9223372036854775807->Calls prog 66 #[.int .i64 z] w (xe w (z:Rat))
 whole:∀(z:Int) (b:Bool) (A:ze) (n c:Nat) (w:World),T w->zZ w z b A n c->n<=67108864->Calls prog 131 #[.agg #[.bool b,.slice A n c]] w (xe w (z:Rat))
structure uG (T:World->Prop)(M:Nat->Prop):Prop where
 g0:M 0->lu T
 g1:M 1->lv T
 g2:M 2->lw T
 new:∀(p q:Int) (b b':Bool) (A D:ze) (n m c d:Nat) (w:World),T w->zZ w p b A n c->zZ w q b' D m d->n<=67108864->m<=67108864->q≠0->Calls prog 129 #[.agg #[.bool b,.slice A n c],.agg #[.bool b',.slice D m d]] w (vU w (Rat.divInt p q) true)
 newNo:∀(p q:Int) (b b':Bool) (A D:ze) (n m c d:Nat) (w:World),T w->zZ w p b A n c->zZ w q b' D m d->n<=67108864->m<=67108864->q=0->Calls prog 129 #[.agg #[.bool b,.slice A n c],.agg #[.bool b',.slice D m d]] w (vU w 0 false)
 of:∀(p q:Int) (w:World),T w-> -9223372036854775808<=p->p<=9223372036854775807-> -9223372036854775808<=q->q<=9223372036854775807->q≠0->Calls prog 74 #[.int .i64 p,.int .i64 q] w (vU w (Rat.divInt p q) true)
 ofNo:∀(p q:Int) (w:World),T w-> -9223372036854775808<=p->p<=9223372036854775807->q=0->Calls prog 74 #[.int .i64 p,.int .i64 q] w (vU w 0 false)
 num:∀(r:Rat) (b:Bool) (A:ze) (n c:Nat) (E:ze) (k f:Nat) (w:World),T w->zo w r b A n c E k f->zQ n k->Calls prog 46 #[.agg #[.bool b,.slice A n c,.slice E k f]] w (xF w r.num)
 den:∀(r:Rat) (b:Bool) (A:ze) (n c:Nat) (E:ze) (k f:Nat) (w:World),T w->zo w r b A n c E k f->zQ n k->Calls prog 48 #[.agg #[.bool b,.slice A n c,.slice E k f]] w (jH w r.den)
 sign:∀(r:Rat) (b:Bool) (A:ze) (n c:Nat) (E:ze) (k f:Nat) (w:World),T w->zo w r b A n c E k f->zQ n k->Calls prog 36 #[.agg #[.bool b,.slice A n c,.slice E k f]] w (wC w (tE r))
 zero:∀(r:Rat) (b:Bool) (A:ze) (n c:Nat) (E:ze) (k f:Nat) (w:World),T w->zo w r b A n c E k f->zQ n k->Calls prog 10 #[.agg #[.bool b,.slice A n c,.slice E k f]] w λe w'=>e=.returned (.bool (decide (r=0)))/\Below w.heap.size w w'
 isInt:∀(r:Rat) (b:Bool) (A:ze) (n c:Nat) (E:ze) (k f:Nat) (w:World),T w->zo w r b A n c E k f->zQ n k->Calls prog 49 #[.agg #[.bool b,.slice A n c,.slice E k f]] w λe w'=>e=.returned (.bool (decide (r.den=1)))/\Below w.heap.size w w'
 bits:∀(r:Rat) (b:Bool) (A:ze) (n c:Nat) (E:ze) (k f:Nat) (w:World),T w->zo w r b A n c E k f->zQ n k->Calls prog 50 #[.agg #[.bool b,.slice A n c,.slice E k f]] w (wC w ((bitLen r.num.natAbs+bitLen r.den:Nat):Int))
 neg:∀(r:Rat) (b:Bool) (A:ze) (n c:Nat) (E:ze) (k f:Nat) (w:World),T w->zo w r b A n c E k f->zQ n k->Calls prog 69 #[.agg #[.bool b,.slice A n c,.slice E k f]] w (xe w (-r))
 inv:∀(r:Rat) (b:Bool) (A:ze) (n c:Nat) (E:ze) (k f:Nat) (w:World),T w->zo w r b A n c E k f->zQ n k->r≠0->Calls prog 85 #[.agg #[.bool b,.slice A n c,.slice E k f]] w (vU w r⁻¹ true)
 invNo:∀(r:Rat) (b:Bool) (A:ze) (n c:Nat) (E:ze) (k f:Nat) (w:World),T w->zo w r b A n c E k f->zQ n k->r=0->Calls prog 85 #[.agg #[.bool b,.slice A n c,.slice E k f]] w (vU w 0 false)
 add:∀(r s:Rat) (b b':Bool) (A A':ze) (n n' c c':Nat) (E E':ze) (k k' f f':Nat) (w:World),T w->zo w r b A n c E k f->zo w s b' A' n' c' E' k' f'->zQ n k->zQ n' k'->Calls prog 156 #[.agg #[.bool b,.slice A n c,.slice E k f],.agg #[.bool b',.slice A' n' c',.slice E' k' f']] w (xe w (r+s))
 sub:∀(r s:Rat) (b b':Bool) (A A':ze) (n n' c c':Nat) (E E':ze) (k k' f f':Nat) (w:World),T w->zo w r b A n c E k f->zo w s b' A' n' c' E' k' f'->zQ n k->zQ n' k'->Calls prog 152 #[.agg #[.bool b,.slice A n c,.slice E k f],.agg #[.bool b',.slice A' n' c',.slice E' k' f']] w (xe w (r - s))
 cmp:∀(r s:Rat) (b b':Bool) (A A':ze) (n n' c c':Nat) (E E':ze) (k k' f f':Nat) (w:World),T w->zo w r b A n c E k f->zo w s b' A' n' c' E' k' f'->zQ n k->zQ n' k'->Calls prog 127 #[.agg #[.bool b,.slice A n c,.slice E k f],.agg #[.bool b',.slice A' n' c',.slice E' k' f']] w (wC w (uW r s))
 same:∀(r s:Rat) (b b':Bool) (A A':ze) (n n' c c':Nat) (E E':ze) (k k' f f':Nat) (w:World),T w->zo w r b A n c E k f->zo w s b' A' n' c' E' k' f'->zQ n k->zQ n' k'->Calls prog 75 #[.agg #[.bool b,.slice A n c,.slice E k f],.agg #[.bool b',.slice A' n' c',.slice E' k' f']] w λe w'=>e=.returned (.bool (decide (r=s)))/\Below w.heap.size w w'
def z4 (g:Nat)(w w':World):Prop:=w'.heap.size=w.heap.size/\∀p:Addr,p.block≠g->w'.cell? p=w.cell? p
theorem z4.refl (g:Nat)(w:World):z4 g w w:=⟨rfl,λ_ _=>rfl⟩
theorem z4.set_ (h:z4 g w w')(j:Nat)(v:Value):z4 g w (w'.setCell ⟨g,j,none⟩ v):=
 ⟨by rw [<-h.1];simp,λp hp=>(XP w' ⟨g,j,none⟩ p v (λe=>hp (by first|rw [e]|rw [<-e]))).trans (h.2 p hp)⟩
theorem qh (w:World)(g:Nat)(v0:Value):z4 g w (w.setCell ⟨g,0,none⟩ v0):=(z4.refl g w).set_ 0 v0
theorem uj (w:World)(g:Nat)(v0 v1:Value):z4 g w ((w.setCell ⟨g,0,none⟩ v0).setCell ⟨g,1,none⟩ v1):=(qh w g v0).set_ 1 v1
theorem vw (w:World)(g:Nat)(v0 v1 v2:Value):z4 g w (((w.setCell ⟨g,0,none⟩ v0).setCell ⟨g,1,none⟩ v1).setCell ⟨g,2,none⟩ v2):=(uj w g v0 v1).set_ 2 v2
def yf (cs:Array Value):Prop:=∀v ∈ cs.toList,∀k z,v≠.int k z
theorem yf.s1 (q:ze)(r s:Nat):yf #[.slice q r s]:=by intro v hv k z e;simp at hv;subst hv;cases e
theorem yf.s2 (p:Bool)(q:ze)(r s:Nat):yf #[.bool p,.slice q r s]:=by intro v hv k z e;simp at hv;rcases hv with rfl|rfl<;>cases e
theorem yf.s3 (p:Bool)(q:ze)(r s:Nat)(q2:ze)(r2 s2:Nat):yf #[.bool p,.slice q r s,.slice q2 r2 s2]:=by intro v hv k z e;simp at hv;rcases hv with rfl|rfl|rfl<;>cases e
theorem cC:yf #[.slice none 0 0]:=yf.s1 _ _ _
theorem tD:yf #[.bool false,.slice none 0 0]:=yf.s2 _ _ _ _
theorem Wv {k:IntKind}{l:List Nat}(h:zH w w.heap.size 1 A n (zq k l))(hk:zh w g t cs)(a:yf cs):0<n->∀ad,A=some ad->ad.block≠g:=λhn ad e hg=>by
 have hl:=h.len_;obtain⟨ad',e',_,hc⟩:=h.2 hn;rw [e] at e';injection e' with e';subst e';have h0:=hc 0 (.int k (l.getD 0 0:Nat)) (mQ k _ 0 zb);have e0:ad.add 0=ad:=by unfold Addr.add;rw [if_pos rfl]
 rw [e0] at h0;obtain⟨bk,off,pr⟩:=ad;simp only at hg;subst hg;unfold zh at hk;cases pr with
 |none=>
   rw [show w.cell? ⟨bk,off,none⟩=cs[off]? from cell_of_row w bk off _ t (0,0) hk,<-QM] at h0;exact a _ (QJ h0) _ _ rfl
 |some q=>simp [World.cell?,hk] at h0
theorem Ww {k:IntKind}{l:List Nat}(h:zH w w.heap.size 1 A n (zq k l))(hk:zh w g t cs)(a:yf cs)(ho:z4 g w w'):zH w' w'.heap.size 1 A n (zq k l):=by
 have c:=Wv h hk a;refine⟨h.1,λhn=>?_⟩;obtain⟨ad,e,hb,hc⟩:=h.2 hn;refine⟨ad,e,by rw [ho.1];exact hb,λj v hv=>?_⟩;rw [ho.2 (ad.add j) (by rw [y8];exact c hn ad e)];exact hc j v hv
theorem lZ (h:zn w x A n c)(hk:zh w g t cs)(a:yf cs)(ho:z4 g w w'):zn w' x A n c:=⟨Ww h.1 hk a ho,h.2⟩
theorem ZI (h:zZ w z b A n c)(hk:zh w g t cs)(a:yf cs)(ho:z4 g w w'):zZ w' z b A n c:=⟨h.1,lZ h.2 hk a ho⟩
theorem iE {r:Rat}(h:zo w r b A n c E k f)(hk:zh w g t cs)(a:yf cs)(ho:z4 g w w'):zo w' r b A n c E k f:=by
 refine⟨ZI h.1 hk a ho,?_⟩;obtain⟨x,e,hx⟩:=h.2;exact⟨x,e,lZ hx hk a ho⟩
def zm (K:Nat)(r:Rat):Prop:=xh (18446744073709551616^K) r
theorem zm.up {r:Rat}(h:zm K r)(hk:K<=K'):zm K' r:=xh.up h (qV zg hk)
theorem Xr (K K':Nat):2*(18446744073709551616^K*18446744073709551616^K')<=18446744073709551616^(K+K'+1):=by
 rw [qP,xX,qS];exact QB _ zg
theorem zm.add {r:Rat}(h:zm K r)(h':zm K' s):zm (K+K'+1) (r+s):=xh.up (xh.add h h') (Xr K K')
theorem zm.sub {r:Rat}(h:zm K r)(h':zm K' s):zm (K+K'+1) (r - s):=xh.up (xh.sub h h') (Xr K K')
theorem zm.mul {r:Rat}(h:zm K r)(h':zm K' s):zm (K+K') (r*s):=xh.up (xh.mul h h') (by rw [xX];exact qY _)
theorem zm.neg {r:Rat}(h:zm K r):zm K (-r):=xh.neg h
theorem zm.inv {r:Rat}(h:zm K r):zm K r⁻¹:=xh.inv h
theorem zm.abs {r:Rat}(h:zm K r):zm K r.abs:=by
 unfold Rat.abs
 split
 ·exact h
 ·exact h.neg
theorem zm.num {r:Rat}(h:zm K r):Sz K r.num.natAbs:=h.1
theorem zm.den {r:Rat}(h:zm K r):Sz K r.den:=h.2
theorem jy (h:0<K):1<18446744073709551616^K:=Nat.one_lt_pow zb zg
theorem zm.whole (h:Sz K z.natAbs)(hK:0<K):zm K (z:Rat):=xh.whole h (jy hK)
theorem zm.made {K:Nat}{p q:Int}(h:Sz K p.natAbs)(h':Sz K q.natAbs)(hK:0<K):zm K (Rat.divInt p q):=xh.made h h' (jy hK)
theorem zm.zero:zm 1 (0:Rat):=⟨zg,zg⟩
theorem zm.fit {r:Rat}(h:zm K r){w:World}{b:Bool}{A:ze}{n c:Nat}{E:ze}{k f:Nat}(hr:zo w r b A n c E k f)(hK:K<=67108864):zQ n k:=by
 refine⟨qL (h.num.words hr.1.2) (qL hK zg),?_⟩;obtain⟨x,⟨e,_⟩,hx⟩:=hr.2;have hd:Sz K x:=h.den.of_le (by rw [e];split<;>omega);exact qL (hd.words hx) (qL hK zg)
def vv (D:List Nat)(a0 a:Act):Prop:=a.defers=a0.defers/\a.tmps.size=a0.tmps.size/\∀j,j ∉ D->a.tmps.getD j undef=a0.tmps.getD j undef
theorem vv.refl (D:List Nat)(a:Act):vv D a a:=⟨rfl,rfl,λ_ _=>rfl⟩
theorem oO {j:Nat}(h:j≠i)(v:Value):(a.put (some i) v).tmps.getD j undef=a.tmps.getD j undef:=by
 simp only [Act.put,QX];rw [qR (Ne.symm h)]
theorem vi (h:i<a.tmps.size)(v:Value):(a.put (some i) v).tmps.getD i undef=v:=by
 simp only [Act.put,QX];rw [QI h];rfl
theorem eS (a:Act)(i:Nat)(v:Value):(a.put (some i) v).tmps.size=a.tmps.size:=by simp [Act.put]
theorem vv.put (h:vv D a0 a){i:Nat}(hi:i ∈ D)(v:Value):vv D a0 (a.put (some i) v):=
 ⟨h.1,by rw [eS];exact h.2.1,λj hj=>(oO (λe=>hj (by rw [e];exact hi)) v).trans (h.2.2 j hj)⟩
theorem vv.get (h:vv D a0 a)(j:Nat)(hj:j ∉ D){v:Value}(hv:a0.tmps.getD j undef=v):a.tmps.getD j undef=v:=(h.2.2 j hj).trans hv
theorem vv.lt (h:vv D a0 a){j:Nat}(hj:j<a0.tmps.size):j<a.tmps.size:=by rw [h.2.1];exact hj
theorem oY {b:Act}(hd:a.defers=b.defers)(hs:a.tmps.size=b.tmps.size)(hg:∀j,a.tmps.getD j undef=b.tmps.getD j undef):a=b:=by
 obtain⟨at_,ad⟩:=a;obtain⟨bt,bd⟩:=b;simp only at hd hs hg;subst hd;congr 1;refine Array.ext hs λj h1 h2=>?_;have:=hg j;simp only [QX,QZ h1,QZ h2] at this;exact this
def vW (vs:List (Nat×Value))(a:Act):Act:=vs.foldl (λa p=>a.put (some p.1) p.2) a
theorem Y7 (vs:List (Nat×Value))(a:Act):(vW vs a).tmps.size=a.tmps.size/\(vW vs a).defers=a.defers:=by
 unfold vW
 induction vs generalizing a with
 |nil=>exact⟨rfl,rfl⟩
 |cons p t ih=>rw [List.foldl_cons];have:=ih (a.put (some p.1) p.2);exact⟨this.1.trans (eS _ _ _),this.2⟩
theorem R1 (vs:List (Nat×Value))(a b:Act)(hs:b.tmps.size=a.tmps.size)(hv:∀p ∈ vs,a.tmps.getD p.1 undef=p.2):∀j,(vW vs b).tmps.getD j undef=if j ∈ vs.map Prod.fst then a.tmps.getD j undef else b.tmps.getD j undef:=by
 intro j
 induction vs generalizing b with
 |nil=>rfl
 |cons p t ih=>
   show(vW t (b.put (some p.1) p.2)).tmps.getD j undef=_;rw [ih (b.put (some p.1) p.2) (by rw [eS];exact hs) (λq hq=>hv q (XN _ hq))];by_cases h1:j ∈ t.map Prod.fst
   ·rw [if_pos h1,if_pos (by rw [yX];exact XN _ h1)]
   ·rw [if_neg h1];by_cases h2:j=p.1
    ·rw [if_pos (by rw [yX,h2];exact xM),h2,hv p xM];by_cases h3:p.1<b.tmps.size
     ·exact vi h3 _
     ·have h4:=hv p xM;have h5:¬ p.1<a.tmps.size:=by rw [<-hs];exact h3
      simp only [QX] at h4⊢;rw [Array.getElem?_eq_none zb] at h4;rw [Array.getElem?_eq_none (by rw [eS];omega)];exact h4
    ·rw [if_neg (by rw [yX];intro h;rcases List.mem_cons.1 h with h|h;exact h2 h;exact h1 h)];exact oO h2 _
theorem vv.eq (h:vv D a0 a)(vs:List (Nat×Value))(hD:vs.map Prod.fst=D)(hv:∀p ∈ vs,a.tmps.getD p.1 undef=p.2):a=vW vs a0:=by
 subst hD;refine oY (h.1.trans (Y7 vs a0).2.symm) (h.2.1.trans (Y7 vs a0).1.symm) λj=>?_;rw [R1 vs a a0 h.2.1.symm hv j];by_cases h1:j ∈ vs.map Prod.fst
 ·rw [if_pos h1]
 ·rw [if_neg h1];exact h.2.2 j h1
section
variable {P:Program}{ops0:Array Oper}{Q:Exit->Act->World->Prop}{md:Region.Mode}{S:World->Prop}
theorem fY {J:Act->Array Bool->Act->World->Prop}{L:Array Bool}{l0:Array Bool}{w0:World}(hd:uJ l0=c)(h0:J a0 l0 a0 w0)
  (g:∀(j:Array Oper) (A0:Act) (Q':Exit->Act->World->Prop),j=ops0->A0.tmps.size=a0.tmps.size->(∀i d,A0.tmps.getD i d=a0.tmps.getD i d)->(∀l a w,J A0 l a w->Region.ready md j l=[]->l=L)/\∀l a w i,J A0 l a w->l≠L->i ∈ Region.ready md j l->wpOp P j Q' i (λa' w'=>S w'/\J A0 (l.setIfInBounds i true) a' w') a w)
  (k:∀a w,J a0 L a w->wpAnyH P md ops0 Q S (uJ L) L a w):wpAnyH P md ops0 Q S c l0 a0 w0:=
 Ym (g ops0 a0 Q rfl rfl (λ_ _=>rfl)).1 (g ops0 a0 Q rfl rfl (λ_ _=>rfl)).2 k c l0 a0 w0 hd h0
theorem dI {c:Array Oper}{o:Oper}{K:Act->World->Prop}(ho:c[i]?=some o)(hg:o.guard=none)
  (h:∀K':Act->World->Prop,Shut (∀a w,K a w->K' a w)->Oper.wp P o a w K' Q):wpOp P c Q i K a w:=
 wpOp_step ho λK' hK=>by
  rw [if_pos (by unfold Region.wanted;rw [hg])];exact h K' hK
theorem V7 {o:Oper}{K:Act->World->Prop}{w':World}{v:Value}(h:(execOp a.eval o).run P w=.ok (.value v) w')(hK:K (a.put o.dst v) w'):Oper.wp P o a w K Q:=by
 unfold Oper.wp;rw [h];exact hK
theorem PJ {o:Oper}{K:Act->World->Prop}(ho:o.op=.move (.tmp x)\/o.op=.assign (.tmp x))(hx:a.tmps.getD x undef=v)(hK:K (a.put o.dst v) w):Oper.wp P o a w K Q:=by
 refine V7 (v:=v) (w':=w) ?_ hK;unfold execOp;rcases ho with ho|ho<;>rw [ho]<;>simp only [Act.eval,hx]<;>rfl
theorem T5 {o:Oper}{K:Act->World->Prop}{vs:Array Value}(ho:o.op=.extract (.tmp x) k)(hx:a.tmps.getD x undef=.tuple vs)(hk:vs[k]?=some v)(hK:K (a.put o.dst v) w):Oper.wp P o a w K Q:=by
 refine V7 (v:=v) (w':=w) ?_ hK;unfold execOp;rw [ho];simp only [Act.eval,hx,Instr.extract,hk];rfl
end
def Cs (w:World):List (Addr×Value)->Prop
 |[]=>True
 |q::t=>w.cell? q.1=some q.2/\Cs w t
theorem zJ:Cs w []:=trivial
theorem zl {p:Addr}{l:List (Addr×Value)}(h:w.cell? p=some v)(t:Cs w l):Cs w ((p,v)::l):=⟨h,t⟩
theorem Cs.below {l:List (Addr×Value)}(h:Cs w l)(hb:Below w.heap.size w w'):Cs w' l:=by
 induction l with
 |nil=>trivial
 |cons q t ih=>exact⟨zt hb h.1,ih h.2⟩
theorem Cs.drew {l:List (Addr×Value)}(h:Cs w l):Cs w.drew l:=by
 induction l with
 |nil=>trivial
 |cons q t ih=>exact⟨h.1,ih h.2⟩
def tw (g:Nat):List (Addr×Value)->Prop
 |[]=>True
 |q::t=>q.1.block≠g/\tw g t
theorem Cs.far {l:List (Addr×Value)}(h:Cs w l)(hf:z4 g w w')(hn:tw g l):Cs w' l:=by
 induction l with
 |nil=>trivial
 |cons q t ih=>exact⟨(hf.2 q.1 hn.1).trans h.1,ih h.2 hn.2⟩
theorem ZW {l:List (Addr×Value)}(x y:Value)(h:Cs w l)(hn:tw g l:=by(simp only [tw,and_true];try omega)):Cs ((w.setCell ⟨g,0,none⟩ x).setCell ⟨g,1,none⟩ y) l:=h.far (uj w g x y) hn
theorem tB {l:List (Addr×Value)}(x y z:Value)(h:Cs w l)(hn:tw g l:=by(simp only [tw,and_true];try omega)):Cs (((w.setCell ⟨g,0,none⟩ x).setCell ⟨g,1,none⟩ y).setCell ⟨g,2,none⟩ z) l:=h.far (vw w g x y z) hn
theorem zG:(∀(a:Act) (d:Nat) (v:Value),a.put (some d) v={tmps:=a.tmps.setIfInBounds d v,defers:=a.defers})/\(∀(a:Act) (v:Value),a.put none v=a)/\(∀(l:List Value) (i:Nat) (v:Value),l.toArray.setIfInBounds i v=(l.set i v).toArray)/\(∀(x:Value) (l:List Value) (v:Value),(x::l).set 0 v=v::l)/\(∀(x:Value) (l:List Value) (i:Nat) (v:Value),(x::l).set (i+1) v=x::l.set i v):=
 ⟨λ_ _ _=>rfl,λ_ _=>rfl,λ_ _ _=>qK ..,λ_ _ _=>rfl,λ_ _ _ _=>rfl⟩
section
variable {P:Program}{ops:Array Oper}{Q:Exit->Act->World->Prop}{S:World->Prop}{fuel:Nat}{l:Array Bool}{a:Act}{w:World}
theorem rg {cl:List (Addr×Value)}(h0:Cs w cl)(h:Cs w.drew cl->wpAnyH P .any ops (NoPanic Q) (λw'=>Cs w' cl) ops.size (Array.replicate ops.size false) a w.drew)(hm:P.follows Departure.mixedOrders=true:=by kernel_rfl):Code.wp P (.region id ops true) Q a w:=
 wp_region_noPanic (wp_region_held_drew (S:=λw'=>Cs w' cl) hm h0.drew h)
theorem tk (i:Nat){o:Oper}{v:Value}{a':Act}(hn:wpAnyH P .any ops (NoPanic Q) S fuel (l.setIfInBounds i true) a' w)(h1:ops[i]?=some o:=by simp only [qT,qA,qM];rfl)(h2:Region.noSelect ops=true:=by kernel_rfl)(h3:Region.free .any ops l i=true:=by kernel_rfl)(h4:(Region.ready .any ops l).contains i=true:=by kernel_rfl)(h5:Region.wanted o (yielded ops a.tmps)=true:=by rfl)(h6:∀w,S w->Sem.run P (execOp a.eval o) w=Result.ok (Next.value v) w:=by((intro w c;(try dsimp only [Cs] at c);go_simp);(try with_reducible rfl)))(hS:S w:=by with_reducible assumption)(ha:a.put o.dst v=a':=by(simp only [zG];try rfl)):wpAnyH P .any ops (NoPanic Q) S (fuel+1) l a w:=
 wpAnyH_take h1 h2 h3 h4 (λ_ _ _ h=>h) (Or.inl ⟨h5,h6⟩) hS (ha▸hn)
theorem rc (i:Nat){o:Oper}(hk:∀K':Act->World->Prop,Shut (∀(a:Act) (w:World),S w->(S w->wpAnyH P .any ops (NoPanic Q) S fuel (l.setIfInBounds i true) a w)->K' a w)->Oper.wp P o a w K' (NoPanic Q))(h1:ops[i]?=some o:=by simp only [qT,qA,qM];rfl)(h2:Region.ready .any ops l=[i]:=by kernel_rfl)(h3:Region.wanted o (yielded ops a.tmps)=true:=by rfl):wpAnyH P .any ops (NoPanic Q) S (fuel+1) l a w:=
 wpAnyH_ready h2 zE (AllReadyH.cons h1 (λK' hK=>by rw [if_pos h3];exact hk K' hK) AllReadyH.nil)
theorem zT (h:Q .normal a w)(hr:Region.ready .any ops l=[]:=by kernel_rfl):wpAnyH P .any ops (NoPanic Q) S fuel l a w:=wpAnyH_done hr (NoPanic.normal h) fuel
variable {ops0:Array Oper}{md:Region.Mode}{i:Nat}
theorem xi (d k:Nat){o:Oper}{e:Edge}(hi:i ∈ Region.ready md ops l)(hO:ops=ops0)(ho:ops0[i]?=some o:=by simp only [qT,qA,qM];rfl)(he:o.after[k]?=some e:=by rfl)(hb:Region.binds md e=true:=by rfl)(hd:e.on=d:=by rfl):l.getD d false=true:=by
 subst hO;subst hd;exact Pp hi ho he hb
theorem wJ (i:Nat){o:Oper}(h:Region.ready md ops l=[])(hO:ops=ops0)(ho:ops0[i]?=some o:=by simp only [qT,qA,qM];rfl)(hr:(o.after.toList.all λe=> !Region.binds md e||l.getD e.on false)=true:=by rfl):l.getD i true=true:=by
 subst hO;exact Rv h ho hr
theorem wK (i:Nat){L l:Array Bool}(h:L=l):l.getD i false=L.getD i false:=by rw [h]
theorem Gd.off (h:Gd b (false=true)):b=false:=by
 cases b
 ·rfl
 ·exact absurd (h rfl) zg
theorem wL {o:Oper}{K:Act->World->Prop}{Q:Exit->Act->World->Prop}(hO:ops=ops0)(h:∀K':Act->World->Prop,Shut (∀a w,K a w->K' a w)->Oper.wp P o a w K' Q)(ho:ops0[i]?=some o:=by simp only [qT,qA,qM];rfl)(hg:o.guard=none:=by rfl):wpOp P ops Q i K a w:=by
 subst hO;exact dI ho hg h
theorem rJ {f:Bool}(h:Gd f (a.tmps.getD x undef=u))(hn:x≠i:=by decide):Gd f ((a.put (some i) v).tmps.getD x undef=u):=h.mono λh=>(oO hn _).trans h
theorem kq {f:Bool}{p q:Prop}(h:Gd f (a.tmps.getD x undef=u/\p))(g:p->q)(hn:x≠i:=by decide):Gd f ((a.put (some i) v).tmps.getD x undef=u/\q):=h.mono λh=>⟨(oO hn _).trans h.1,g h.2⟩
end
theorem zh.c1 {x:Value}(h:zh w g t #[x]):w.cell? ⟨g,0,none⟩=some x:=h.cell 0
theorem zh.c2 {x:Value}(h:zh w g t #[x,y]):w.cell? ⟨g,0,none⟩=some x/\w.cell? ⟨g,1,none⟩=some y:=⟨h.cell 0,h.cell 1⟩
theorem zh.c3 {x z:Value}(h:zh w g t #[x,y,z]):w.cell? ⟨g,0,none⟩=some x/\w.cell? ⟨g,1,none⟩=some y/\w.cell? ⟨g,2,none⟩=some z:=⟨h.cell 0,h.cell 1,h.cell 2⟩
theorem fO {a:Value}(h:zh w g t #[a]):w.cell? ⟨g,0,none⟩=some a/\w.frozen? ⟨g,0,none⟩=false:=⟨h.cell 0,h.frozen 0⟩
theorem wS {a b:Value}(h:zh w g t #[a,b])(x:Value):w.cell? ⟨g,0,none⟩=some a/\w.frozen? ⟨g,0,none⟩=false/\(w.setCell ⟨g,0,none⟩ x).cell? ⟨g,1,none⟩=some b/\(w.setCell ⟨g,0,none⟩ x).frozen? ⟨g,1,none⟩=false:=⟨h.cell 0,h.frozen 0,(h.set_ 0 x).cell 1,(h.set_ 0 x).frozen 1⟩
theorem yh {a b c:Value}(h:zh w g t #[a,b,c])(x y:Value):w.cell? ⟨g,0,none⟩=some a/\w.frozen? ⟨g,0,none⟩=false/\(w.setCell ⟨g,0,none⟩ x).cell? ⟨g,1,none⟩=some b/\(w.setCell ⟨g,0,none⟩ x).frozen? ⟨g,1,none⟩=false/\((w.setCell ⟨g,0,none⟩ x).setCell ⟨g,1,none⟩ y).cell? ⟨g,2,none⟩=some c/\((w.setCell ⟨g,0,none⟩ x).setCell ⟨g,1,none⟩ y).frozen? ⟨g,2,none⟩=false:=
 ⟨h.cell 0,h.frozen 0,(h.set_ 0 x).cell 1,(h.set_ 0 x).frozen 1,((h.set_ 0 x).set_ 1 y).cell 2,((h.set_ 0 x).set_ 1 y).frozen 2⟩
theorem gK {a:Value}(h:zh w g t #[a])(x:Value):zh (w.setCell ⟨g,0,none⟩ x) g t #[x]:=h.set_ 0 x
theorem wR {a b:Value}(h:zh w g t #[a,b])(x y:Value):zh ((w.setCell ⟨g,0,none⟩ x).setCell ⟨g,1,none⟩ y) g t #[x,y]:=(h.set_ 0 x).set_ 1 y
theorem yg {a b c:Value}(h:zh w g t #[a,b,c])(x y z:Value):zh (((w.setCell ⟨g,0,none⟩ x).setCell ⟨g,1,none⟩ y).setCell ⟨g,2,none⟩ z) g t #[x,y,z]:=((h.set_ 0 x).set_ 1 y).set_ 2 z
theorem o0 (x:Value)(hg:w.heap.size<=g)(h:Below w.heap.size w W):Below w.heap.size w (W.setCell ⟨g,0,none⟩ x):=zz x hg h
theorem tA (x y:Value)(hg:w.heap.size<=g)(h:Below w.heap.size w W):Below w.heap.size w ((W.setCell ⟨g,0,none⟩ x).setCell ⟨g,1,none⟩ y):=zz y hg (zz x hg h)
theorem uI (x y z:Value)(hg:w.heap.size<=g)(h:Below w.heap.size w W):Below w.heap.size w (((W.setCell ⟨g,0,none⟩ x).setCell ⟨g,1,none⟩ y).setCell ⟨g,2,none⟩ z):=zz z hg (tA x y hg h)
theorem Z0 {q:ze}{r s:Nat}(h:zn W x A n c)(k:zh W g t #[.slice q r s])(hB:Below w.heap.size w W)(hg:w.heap.size<=g):jH w x (.returned (.agg #[.slice A n c])) (W.setCell ⟨g,0,none⟩ (.slice A n c)):=
 ⟨_,_,_,rfl,lZ h k (yf.s1 _ _ _) (qh _ _ _),o0 _ hg hB⟩
theorem dT {q:ze}{r s:Nat}(h:zZ W z b A n c)(k:zh W g t #[.bool p,.slice q r s])(hB:Below w.heap.size w W)(hg:w.heap.size<=g):xF w z (.returned (.agg #[.bool b,.slice A n c])) ((W.setCell ⟨g,0,none⟩ (.bool b)).setCell ⟨g,1,none⟩ (.slice A n c)):=
 ⟨_,_,_,_,rfl,ZI h k (yf.s2 _ _ _ _) (uj _ _ _ _),tA _ _ hg hB⟩
theorem wZ {r:Rat}{q q2:ze}{r1 s r2 s2:Nat}(h:zo W r b A n c E k f)(kd:zh W g t #[.bool p,.slice q r1 s,.slice q2 r2 s2])(hB:Below w.heap.size w W)(hg:w.heap.size<=g):xe w r (.returned (.agg #[.bool b,.slice A n c,.slice E k f])) (((W.setCell ⟨g,0,none⟩ (.bool b)).setCell ⟨g,1,none⟩ (.slice A n c)).setCell ⟨g,2,none⟩ (.slice E k f)):=
 ⟨_,_,_,_,_,_,_,rfl,iE h kd (yf.s3 _ _ _ _ _ _ _) (vw _ _ _ _ _),uI _ _ _ hg hB⟩
theorem lE {r:Rat}(u:Bool){g:Nat}{t:TypeId}{b:Bool}{A E:ze}{n c k f:Nat}{p:Bool}{q q2:ze}{r1 s r2 s2:Nat}(h:zo W r b A n c E k f)(kd:zh W g t #[.bool p,.slice q r1 s,.slice q2 r2 s2])(hB:Below w.heap.size w W)(hg:w.heap.size<=g):vU w r u (.returned (.tuple #[.agg #[.bool b,.slice A n c,.slice E k f],.bool u])) (((W.setCell ⟨g,0,none⟩ (.bool b)).setCell ⟨g,1,none⟩ (.slice A n c)).setCell ⟨g,2,none⟩ (.slice E k f)):=
 ⟨_,_,_,_,_,_,_,rfl,iE h kd (yf.s3 _ _ _ _ _ _ _) (vw _ _ _ _ _),uI _ _ _ hg hB⟩
section
variable {P:Program}{ops:Array Oper}{Q:Exit->Act->World->Prop}{S:World->Prop}{fuel:Nat}{l:Array Bool}{a:Act}{w:World}
theorem pi (h:Below w.heap.size w w.drew->wpAnyH P .any ops (NoPanic Q) (λw'=>Below w.heap.size w w') ops.size (Array.replicate ops.size false) a w.drew)(hm:P.follows Departure.mixedOrders=true:=by kernel_rfl):Code.wp P (.region id ops true) Q a w:=
 wp_region_noPanic (wp_region_held_drew (S:=λw'=>Below w.heap.size w w') hm (qZ _ w).drew h)
theorem tl (i:Nat){cl:List (Addr×Value)}(hc:∀w,S w->Cs w cl){o:Oper}{v:Value}{a':Act}(hn:wpAnyH P .any ops (NoPanic Q) S fuel (l.setIfInBounds i true) a' w)(h1:ops[i]?=some o:=by simp only [qT,qA,qM];rfl)(h2:Region.noSelect ops=true:=by kernel_rfl)(h3:Region.free .any ops l i=true:=by kernel_rfl)(h4:(Region.ready .any ops l).contains i=true:=by kernel_rfl)(h5:Region.wanted o (yielded ops a.tmps)=true:=by rfl)(h6:∀w,Cs w cl->Sem.run P (execOp a.eval o) w=Result.ok (Next.value v) w:=by((intro w c;(try dsimp only [Cs] at c);go_simp);(try with_reducible rfl)))(hS:S w:=by with_reducible assumption)(ha:a.put o.dst v=a':=by(simp only [zG];try rfl)):wpAnyH P .any ops (NoPanic Q) S (fuel+1) l a w:=
 wpAnyH_take h1 h2 h3 h4 (λ_ _ _ h=>h) (Or.inl ⟨h5,λw hs=>h6 w (hc w hs)⟩) hS (ha▸hn)
end
theorem yo (h:zd (Sz K x))(k:zn w x A n c)(e:K<=B:=by omega):n<=B:=qL (h.o.words k) e
theorem yx {K:Nat}(h:zd (Sz K z.natAbs))(k:zZ w z b A n c)(e:K<=B:=by omega):n<=B:=qL (h.o.words k.words) e
theorem szq {r:Rat}(h:zd (zm K r))(q:zo w r b A n c E k f)(e:K<=67108864:=by omega):zQ n k:=zm.fit h.o q e
set_option maxRecDepth 100000
def Qq (I:Nat->World->Prop)(k:Nat)(W:World):Exit->Act->World->Prop:=λe _ W'=>e=.normal/\KeepsOthers W W'/\I k W'
def Xs (P:Program)(gf:Nat)(lb:Array Value)(enc:Nat->Array Value)(N:Nat)(I:Nat->World->Prop):Prop:=
 ∀ (l : Nat) (J : Nat → World → Prop) (W : World),(∀ k W,J k W → I k W) →
  (∀k W,k<N->J (k+1) W->YieldAt Fence.wide 1 P l (enc k) W λe W'=>e=.returned (.bool true)/\J k W')->
  J N W->CallsIn Fence.wide 2 P gf (#[.func (.yield l) #[] #[]]++lb) W λe W'=>(∃v,e=.returned v)/\J 0 W'
theorem iB {I:Nat->World->Prop}{b:Nat}{o:Obj}(hI:∀k,OwnFrom w.heap.size (fun(_:Unit) W=>I k W))(h:I k W)(hb:w.heap.size<=b)(ho:W.heap[b]?=some o)(hc:o.isCells=false)(o':Obj):I k (W.putObj b o'):=
 (hI k).putObj (s:=()) o' h hb ho hc
theorem Wi {P:Program}{g:Operand}{ps:Array Tmp}{assign body:Code}{Q:Exit->Act->World->Prop}{gf:Nat}{lb:Array Value}(hg:a.eval g=.func (.func gf) #[] lb)
  (eg:∀args w,(callFunc gf args).run P w=.ok (.enter gf args) w) (N:Nat) (d:Nat->Array Value) (u:∀k,(d k).size=ps.size) (I:Nat->World->Prop) (hI:∀k,OwnFrom w.heap.size (fun(_:Unit) W=>I k W)) (h0:I N w)
  (m:Xs P gf lb d N I) (a1:Nat->Act)
  (c:∀(l k:Nat) (W:World) (K:Act->World->Prop),K (a1 k) W->assign.wpIn (Fence.wide.inRound l) 1 P (Exit.then K (λ_ _ _=>False)) {tmps:=(ps.zip (d k)).foldl (λt (p,v)=>t.setIfInBounds p v) a.tmps,defers:=[]} W)
  (i:∀(l k:Nat) (W:World),k<N->I (k+1) W->body.wpIn (Fence.wide.inRound l) 1 P (Qq I k W) (a1 k) W)
  (j:∀(D:Nat) (W:World),w.heap.size<=D->I 0 W->W.heap[D]?=some (.deferred (some []))->Q .normal {a with defers:={target:=.collected D,args:=#[]}::a.defers} W):
  (Code.rangeFunc g ps assign body).wpIn Fence.wide 3 P Q a w:=by
 refine wpIn_rangeFunc λfn s=>?_;obtain⟨r,hr⟩:∃r:Loop,r={state:=.ready,pending:=none,fn,tmps:=a.tmps,params:=ps,assign,body,defers:=w.heap.size}:=⟨_,rfl⟩;obtain⟨V,hV⟩:∃V,(w.alloc (.deferred (some []))).alloc (.loop r)=V:=⟨_,rfl⟩;have gV:w.grownBy V none:=by rw [<-hV];exact(YI w _ none).trans (YI _ _ none)
 have rV:V.heap[w.heap.size+1]?=some (.loop r):=by
  have h:=World.alloc_heap_new (w.alloc (.deferred (some []))) (.loop r);rw [YH,hV] at h;exact h
 have dV:V.heap[w.heap.size]?=some (.deferred (some [])):=by
  have h:=World.alloc_heap_new w (.deferred (some []));rw [<-hV,Below.heap_alloc _ _ _ zE];exact h
 have iV:I N V:=hI N () w V none h0 gV (λ_ e=>by cases e);refine⟨w.heap.size+1,[{target:=.collected w.heap.size,args:=#[]}],V,{target:=.fn (.func gf) lb,args:=#[.func (.yield (w.heap.size+1)) #[] #[]]},V,gf,#[.func (.yield (w.heap.size+1)) #[] #[]]++lb,V,?_,?_,λ_ _=>trivial,?_,λ_=>by omega,?_⟩
 ·rw [<-hV,hr];exact run_enterLoop_outer _ _ _ _ _
 ·simp only [resolve,hg];simp [go_sem]
 ·simp [invoke,go_sem,eg]
 refine(m (w.heap.size+1) (λk W=>I k W/\W.heap[w.heap.size+1]?=some (.loop r)/\W.heap[w.heap.size]?=some (.deferred (some []))) V (λ_ _ h=>h.1) ?_ ⟨iV,rV,dV⟩).mono ?_
 ·rintro k W hk ⟨iW,rW,dW⟩;have hy:=run_yield (P:=P) (args:=d k) rW (by rw [hr];exact u k);have lt:=(Array.getElem?_eq_some_iff.1 rW).1;obtain⟨rb,o⟩:∃rb:Loop,rb={r with state:=.busy}:=⟨_,rfl⟩;have rX:(W.putObj (w.heap.size+1) (.loop rb)).heap[w.heap.size+1]?=some (.loop rb):=World.putObj_heap_same lt;have dX:(W.putObj (w.heap.size+1) (.loop rb)).heap[w.heap.size]?=some (.deferred (some [])):=(World.putObj_heap_other zb).trans dW;have iX:I (k+1) (W.putObj (w.heap.size+1) (.loop rb)):=iB hI iW zb rW rfl _;rw [hr] at hy;refine⟨fn,_,assign,body,hy,roundIn_of_wpIn s (c _ k W _ ⟨_,by have h:=run_beginRound (P:=P) rW (by rw [hr]);rw [<-o] at h;exact h,?_⟩)⟩;refine wpIn_mono (i _ k _ hk iX) ?_;rintro e a3 W3 ⟨rfl,n,i3⟩;have r3:=n.same _ _ rX rfl;have d3:=n.same _ _ dX rfl;have y:=(Array.getElem?_eq_some_iff.1 r3).1;have he:=run_endRound (P:=P) none r3;refine⟨_,_,he,rfl,iB hI i3 zb r3 rfl _,?_,(World.putObj_heap_other zb).trans d3⟩;rw [World.putObj_heap_same y,o,hr];rfl
 ·rintro e W2 ⟨⟨v,rfl⟩,i2,r2,d2⟩;have he:=run_endLoop (P:=P) r2 (by rw [hr];simp);rw [show r.pending=none from by rw [hr]] at he;exact⟨none,_,he,j _ _ (qY _) (iB hI i2 zb r2 rfl _) ((World.putObj_heap_other zb).trans d2)⟩
attribute [local go_sem] Oper.semAt_some
theorem Yc (Bs len cap:Nat)(A:ze)(v:Nat->Nat)(I:Nat->World->Prop)(hlen:len<=1099511627776)
  (c:∀k W,I k W->W.cell? ⟨Bs,0,none⟩=some (.slice A len cap)) (d:∀k W,k<len->I (k+1) W->∃ad,A=some ad/\W.cell? (ad.add k)=some (.int .u64 (v k:Int))):
  Xs prog 208 #[.pointer (some ⟨Bs,0,none⟩)] (λk=>#[.int .i64 (k:Int),.int .u64 (v k:Int)]) len I:=by
 intro l J W hJ hY h0;have j:=c _ _ (hJ _ _ h0);have HB:=za (λk W (h:J k W)=>c k W (hJ k W h));have HC:=za (λk W (hk:k<len) (h:J (k+1) W)=>d k W hk (hJ _ _ h));have HY:=za hY;have H0:=za h0;have m:IntKind.i64.wrap ((len:Int) - 1)=(len:Int) - 1:=by rw [IntKind.wrap_i64];omega
 clear hJ hY h0 c d;refine callsIn_of_wp func208 rfl trivial ?_ rfl;simp only [ntmps208,XG,xP,YB,Nat.reduceAdd,Nat.reduceSub,YC,YE,List.push_toArray,YT,yK,YD]
 gi_wp2
 clear j m
 gi_loopw [3] (λi wr=>∃k:Nat,k<=len/\i=.int .i64 ((k:Int) - 1)/\J k wr) (λi _=>(intOf i+1).toNat)
 case atStart=>exact⟨len,qY _,rfl,H0.o⟩
 case round=>
  obtain⟨k,hk,rfl,a⟩:=hrel;have hb:=HB.out _ _ a;rcases k with _|k
  ·rw [show((0:Nat):Int) - 1= -1 from by decide];clear hb
   gi_wp2
   go_end0
   exact⟨⟨_,rfl⟩,a⟩
  ·obtain⟨ad,rfl,hc⟩:=HC.o k wr hk a;obtain⟨fn,tmps,assign,body,hy,hR⟩:=HY.o k wr hk a;rw [show((k+1:Nat):Int) - 1=(k:Int) from by omega];have i1:(0:Int)<=(k:Int):=zb;have i2:(k:Int)<(len:Int):=zb;have i3:IntKind.i64.wrap ((k:Int) - 1)=(k:Int) - 1:=by rw [IntKind.wrap_i64];omega
   obtain⟨z,hz⟩:∃z,v k=z:=⟨_,rfl⟩
   try dsimp only at hy
   rw [hz] at hc hy;clear hz a
   gi_wp2
   refine hR.mono ?_;rintro e W3 ⟨rfl,g⟩
   gi_wp2
   go_roundw
   case rel=>exact⟨k,zb,rfl,g⟩
   case measure=>simp [intOf]
theorem cM (A:ze)(len cap:Nat)(w:World):
  Calls prog 200 #[.slice A len cap] w λe w'=>e=.returned (.func (.func 208) #[] #[.pointer (some ⟨w.heap.size,0,none⟩)])/\w.alloc (.cells #[.slice A len cap] 35)=w':=by
 go_enter func200,ntmps200;go_wp2;go_ret;exact⟨rfl,rfl⟩
section
variable {P:Program}{md:Region.Mode}{ops:Array Oper}{Q:Exit->Act->World->Prop}{l n:Nat}
theorem SJ {f:FuncId}{args:Array Value}{R R':Ending->World->Prop}(h:Calls P f args w R)(hr:∀e w,R e w->R' e w):CallsIn (Fence.wide.inRound l) n P f args w R':=
 CallsIn.inRound l (callsIn_wide.2 (h.mono hr))
theorem Qk {row:String}{args:Array Value}{R R':Value->World->Prop}(h:Rows P row args w R)(hr:∀e w,R e w->R' e w):RowsIn (Fence.wide.inRound l) n P row args w R':=
 λc cs _=>let ⟨v,w',r,s⟩:=h c cs;⟨v,w',hr _ _ r,stepsIn_wide.2 s⟩
theorem pj {o:Oper}{K K':Act->World->Prop}(hd:∀c,o.op≠.defer c)(hK:∀a w,K a w->K' a w)(h:o.wp P a w K Q):o.wpIn (Fence.wide.inRound l) n P a w K' Q:=by
 refine⟨λ_ _=>trivial,?_⟩;rw [Oper.semAt_eq _ _ _ hd];unfold Oper.wp at h;generalize (execOp a.eval o).run P w=r at h⊢;cases r with
 |ok x w'=>
   cases x <;> simp only [Oper.upon,Oper.uponIn] at h ⊢ <;>
    first
     |exact hK _ _ h
     |exact⟨λe=>by simp [Fence.wide] at e,SJ h (λe w'' he=>by cases e<;>first|exact hK _ _ he|exact he)⟩
     |exact⟨λe=>by simp [Fence.wide] at e,Qk h (λ_ _ he=>hK _ _ he)⟩
     |exact h.elim
 |halt x w'=>cases x<;>simp only [Oper.upon,Oper.uponIn] at h⊢<;>exact h
theorem eC (hd:∀(i:Nat) (o:Oper),ops[i]?=some o->∀c,o.op≠.defer c)(hQ:¬ LetsOut Q):∀(d:Nat) (g:Array Bool) (a:Act) (w:World),wpAny P md ops Q d g a w->wpAnyIn (Fence.wide.inRound l) n P md ops Q d g a w
 |0,_,_,_,h=>h
 |d+1,g,a,w,h=>by
   refine⟨h.1,λi hi=>?_⟩;have h2:=h.2 i hi;unfold wpOp at h2;unfold wpOpIn;cases ho:ops[i]? with
   |none=>rw [ho] at h2;exact eC hd hQ d _ _ _ h2
   |some o=>
     rw [ho] at h2;simp only at h2⊢
     split
     ·rename_i hw
      rw [if_pos hw] at h2;rcases h2 with h2|h2
      ·exact pj (hd i o ho) (eC hd hQ d _) h2
      ·exact absurd h2.2 hQ
     ·rename_i hw
      rw [if_neg hw] at h2;exact⟨λ_ _=>trivial,eC hd hQ d _ _ _ h2⟩
def UU (ops:Array Oper):Bool:=ops.all λo=>match o.op with|.defer _=>false|_=>true
theorem Sg (h:UU ops=true)(i:Nat)(o:Oper)(ho:ops[i]?=some o)(c:Call):o.op≠.defer c:=by
 intro e;have h1:=Array.all_eq_true.1 h i (Array.getElem?_eq_some_iff.1 ho).1;rw [(Array.getElem?_eq_some_iff.1 ho).2,e] at h1;cases h1
theorem Yu {S:World->Prop}(hm:P.follows .mixedOrders=true)(hd:UU ops=true)(hQ:∀a w,¬ Q .outgrown a w)(hS:S w.drew)
  (h:S w.drew->wpAnyH P .any ops Q S ops.size (Array.replicate ops.size false) a w.drew):(Code.region id ops true).wpIn (Fence.wide.inRound l) n P Q a w:=
 wpIn_region_any hm (eC (Sg hd) (fun⟨a,w,h⟩=>hQ a w h) _ _ _ _ (wpAny_of_held _ _ _ _ (h hS)))
end
theorem uo {b:Nat}{row:Option Nat}(h:zh W b t cs)(hg:W.grownBy W' row)(hr:∀r,row=some r->B<=r/\∃o:Obj,W.heap[r]?=some o/\o.isCells=false):zh W' b t cs:=
 h.grown hg (λe=>by
  obtain⟨_,o,ho,hc⟩:=hr b e.symm;rw [show W.heap[b]?=_ from h] at ho;cases ho;cases hc)
theorem fZ {B0:Nat}{row:Option Nat}(h:Below B0 w W)(h0:B0<=w.heap.size)(hB:B0<=B)(hg:W.grownBy W' row)(hr:∀r,row=some r->B<=r/\∃o:Obj,W.heap[r]?=some o/\o.isCells=false):Below B0 w W':=
 h.grown hg (qL h0 h.size) (λr e=>qL hB (hr r e).1)
