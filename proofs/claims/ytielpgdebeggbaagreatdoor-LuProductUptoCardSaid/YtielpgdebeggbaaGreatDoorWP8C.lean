/- What this claim leans on. -/
import Derived.Test.YtielpgdebeggbaaGreatDoorWBun7
set_option linter.unusedVariables false
set_option linter.unusedSimpArgs false
namespace Go.Proofs.YtielpgdebeggbaaGreatDoor
open Go Go.RowKit Go.Proofs.Tryz
set_option maxHeartbeats 16000000
variable {cs:Array Value}{b p:Bool}{z:Int}{B K K' c f g i id k m n x:Nat}{s:Rat}{t:TypeId}{a u v y:Value}{W w w':World}{A E:ze}
def tg (w:World)(q:Nat)(A:ze)(n c:Nat):Prop:=∃x,(q=(if x=0 then 1 else x)/\x≠1)/\zp w x A n c
theorem tg.below {q:Nat}(h:tg w q A n c)(hb:Below w.heap.size w w'):tg w' q A n c:=by
 obtain⟨x,e,h1⟩:=h;exact⟨x,e,h1.below hb⟩
def zo (w:World)(r:Rat)(b:Bool)(A:ze)(n c:Nat)(E:ze)(k f:Nat):Prop:=yf w r.num b A n c/\tg w r.den E k f
theorem zo.below {r:Rat}(h:zo w r b A n c E k f)(hb:Below w.heap.size w w'):zo w' r b A n c E k f:=⟨h.1.below hb,h.2.below hb⟩
theorem zo.to {r:Rat}(e:r=s)(h:zo w r b A n c E k f):zo w s b A n c E k f:=e▸h
def yi (w:World)(r:Rat)(e:Ending)(w':World):Prop:=∃(b:Bool) (A:ze) (n c:Nat) (E:ze) (k f:Nat),e=.returned (.agg #[.bool b,.slice A n c,.slice E k f])/\zo w' r b A n c E k f/\Below w.heap.size w w'
def ug (w:World)(r:Rat)(t:Bool)(e:Ending)(w':World):Prop:=∃(b:Bool) (A:ze) (n c:Nat) (E:ze) (k f:Nat),e=.returned (.tuple #[.agg #[.bool b,.slice A n c,.slice E k f],.bool t])/\zo w' r b A n c E k f/\Below w.heap.size w w'
def zU (n k:Nat):Prop:=n<=67108864/\k<=67108864
structure mW (T:World->Prop):Prop where
 mul:∀(r s:Rat) (b b':Bool) (A A':ze) (n n' c c':Nat) (E E':ze) (k k' f f':Nat) (w:World),T w->zo w r b A n c E k f->zo w s b' A' n' c' E' k' f'->zU n k->zU n' k'->Calls prog 44 #[.agg #[.bool b,.slice A n c,.slice E k f],.agg #[.bool b',.slice A' n' c',.slice E' k' f']] w (yi w (r*s))
 div:∀(r s:Rat) (b b':Bool) (A A':ze) (n n' c c':Nat) (E E':ze) (k k' f f':Nat) (w:World),T w->zo w r b A n c E k f->zo w s b' A' n' c' E' k' f'->zU n k->zU n' k'->s≠0->Calls prog 21 #[.agg #[.bool b,.slice A n c,.slice E k f],.agg #[.bool b',.slice A' n' c',.slice E' k' f']] w (ug w (r / s) true)
 divNo:∀(r s:Rat) (b b':Bool) (A A':ze) (n n' c c':Nat) (E E':ze) (k k' f f':Nat) (w:World),T w->zo w r b A n c E k f->zo w s b' A' n' c' E' k' f'->zU n k->zU n' k'->s=0->Calls prog 21 #[.agg #[.bool b,.slice A n c,.slice E k f],.agg #[.bool b',.slice A' n' c',.slice E' k' f']] w (ug w 0 false)
structure mX (T:World->Prop):Prop where
structure mY (T:World->Prop):Prop where
 int:∀(z:Int) (w:World),T w-> -9223372036854775808<=z->z<=9223372036854775807->Calls prog 25 #[.int .i64 z] w (yi w (z:Rat))
 whole:∀(z:Int) (b:Bool) (A:ze) (n c:Nat) (w:World),T w->yf w z b A n c->n<=67108864->Calls prog 121 #[.agg #[.bool b,.slice A n c]] w (yi w (z:Rat))
structure lS (T:World->Prop)(M:Nat->Prop):Prop where
 g0:M 0->mW T
 g1:M 1->mX T
 g2:M 2->mY T
 new:∀(p q:Int) (b b':Bool) (A D:ze) (n m c d:Nat) (w:World),T w->yf w p b A n c->yf w q b' D m d->n<=67108864->m<=67108864->q≠0->Calls prog 102 #[.agg #[.bool b,.slice A n c],.agg #[.bool b',.slice D m d]] w (ug w (Rat.divInt p q) true)
 newNo:∀(p q:Int) (b b':Bool) (A D:ze) (n m c d:Nat) (w:World),T w->yf w p b A n c->yf w q b' D m d->n<=67108864->m<=67108864->q=0->Calls prog 102 #[.agg #[.bool b,.slice A n c],.agg #[.bool b',.slice D m d]] w (ug w 0 false)
 of:∀(p q:Int) (w:World),T w-> -9223372036854775808<=p->p<=9223372036854775807-> -9223372036854775808<=q->q<=9223372036854775807->q≠0->Calls prog 53 #[.int .i64 p,.int .i64 q] w (ug w (Rat.divInt p q) true)
 ofNo:∀(p q:Int) (w:World),T w-> -9223372036854775808<=p->p<=9223372036854775807->q=0->Calls prog 53 #[.int .i64 p,.int .i64 q] w (ug w 0 false)
 num:∀(r:Rat) (b:Bool) (A:ze) (n c:Nat) (E:ze) (k f:Nat) (w:World),T w->zo w r b A n c E k f->zU n k->Calls prog 55 #[.agg #[.bool b,.slice A n c,.slice E k f]] w (wf w r.num)
 den:∀(r:Rat) (b:Bool) (A:ze) (n c:Nat) (E:ze) (k f:Nat) (w:World),T w->zo w r b A n c E k f->zU n k->Calls prog 57 #[.agg #[.bool b,.slice A n c,.slice E k f]] w (jg w r.den)
 sign:∀(r:Rat) (b:Bool) (A:ze) (n c:Nat) (E:ze) (k f:Nat) (w:World),T w->zo w r b A n c E k f->zU n k->Calls prog 60 #[.agg #[.bool b,.slice A n c,.slice E k f]] w (vO w (tP r))
 zero:∀(r:Rat) (b:Bool) (A:ze) (n c:Nat) (E:ze) (k f:Nat) (w:World),T w->zo w r b A n c E k f->zU n k->Calls prog 20 #[.agg #[.bool b,.slice A n c,.slice E k f]] w λe w'=>e=.returned (.bool (decide (r=0)))/\Below w.heap.size w w'
 isInt:∀(r:Rat) (b:Bool) (A:ze) (n c:Nat) (E:ze) (k f:Nat) (w:World),T w->zo w r b A n c E k f->zU n k->Calls prog 93 #[.agg #[.bool b,.slice A n c,.slice E k f]] w λe w'=>e=.returned (.bool (decide (r.den=1)))/\Below w.heap.size w w'
 neg:∀(r:Rat) (b:Bool) (A:ze) (n c:Nat) (E:ze) (k f:Nat) (w:World),T w->zo w r b A n c E k f->zU n k->Calls prog 23 #[.agg #[.bool b,.slice A n c,.slice E k f]] w (yi w (-r))
 inv:∀(r:Rat) (b:Bool) (A:ze) (n c:Nat) (E:ze) (k f:Nat) (w:World),T w->zo w r b A n c E k f->zU n k->r≠0->Calls prog 61 #[.agg #[.bool b,.slice A n c,.slice E k f]] w (ug w r⁻¹ true)
 invNo:∀(r:Rat) (b:Bool) (A:ze) (n c:Nat) (E:ze) (k f:Nat) (w:World),T w->zo w r b A n c E k f->zU n k->r=0->Calls prog 61 #[.agg #[.bool b,.slice A n c,.slice E k f]] w (ug w 0 false)
 add:∀(r s:Rat) (b b':Bool) (A A':ze) (n n' c c':Nat) (E E':ze) (k k' f f':Nat) (w:World),T w->zo w r b A n c E k f->zo w s b' A' n' c' E' k' f'->zU n k->zU n' k'->Calls prog 64 #[.agg #[.bool b,.slice A n c,.slice E k f],.agg #[.bool b',.slice A' n' c',.slice E' k' f']] w (yi w (r+s))
 sub:∀(r s:Rat) (b b':Bool) (A A':ze) (n n' c c':Nat) (E E':ze) (k k' f f':Nat) (w:World),T w->zo w r b A n c E k f->zo w s b' A' n' c' E' k' f'->zU n k->zU n' k'->Calls prog 115 #[.agg #[.bool b,.slice A n c,.slice E k f],.agg #[.bool b',.slice A' n' c',.slice E' k' f']] w (yi w (r - s))
 cmp:∀(r s:Rat) (b b':Bool) (A A':ze) (n n' c c':Nat) (E E':ze) (k k' f f':Nat) (w:World),T w->zo w r b A n c E k f->zo w s b' A' n' c' E' k' f'->zU n k->zU n' k'->Calls prog 100 #[.agg #[.bool b,.slice A n c,.slice E k f],.agg #[.bool b',.slice A' n' c',.slice E' k' f']] w (vO w (uO r s))
 same:∀(r s:Rat) (b b':Bool) (A A':ze) (n n' c c':Nat) (E E':ze) (k k' f f':Nat) (w:World),T w->zo w r b A n c E k f->zo w s b' A' n' c' E' k' f'->zU n k->zU n' k'->Calls prog 33 #[.agg #[.bool b,.slice A n c,.slice E k f],.agg #[.bool b',.slice A' n' c',.slice E' k' f']] w λe w'=>e=.returned (.bool (decide (r=s)))/\Below w.heap.size w w'
def yb (g:Nat)(w w':World):Prop:=w'.heap.size=w.heap.size/\∀p:Addr,p.block≠g->w'.cell? p=w.cell? p
theorem yb.refl (g:Nat)(w:World):yb g w w:=⟨rfl,λ_ _=>rfl⟩
theorem yb.set_ (h:yb g w w')(j:Nat)(v:Value):yb g w (w'.setCell ⟨g,j,none⟩ v):=
 ⟨by rw [<-h.1];simp,λp hp=>(YB w' ⟨g,j,none⟩ p v (λe=>hp (by first|rw [e]|rw [<-e]))).trans (h.2 p hp)⟩
theorem sO (w:World)(g:Nat)(v0:Value):yb g w (w.setCell ⟨g,0,none⟩ v0):=(yb.refl g w).set_ 0 v0
theorem vJ (w:World)(g:Nat)(v0 v1:Value):yb g w ((w.setCell ⟨g,0,none⟩ v0).setCell ⟨g,1,none⟩ v1):=(sO w g v0).set_ 1 v1
theorem wB (w:World)(g:Nat)(v0 v1 v2:Value):yb g w (((w.setCell ⟨g,0,none⟩ v0).setCell ⟨g,1,none⟩ v1).setCell ⟨g,2,none⟩ v2):=(vJ w g v0 v1).set_ 2 v2
def zV (cs:Array Value):Prop:=∀v ∈ cs.toList,∀k z,v≠.int k z
theorem zV.s1 (q:ze)(r s:Nat):zV #[.slice q r s]:=by intro v hv k z e;simp at hv;subst hv;cases e
theorem zV.s2 (p:Bool)(q:ze)(r s:Nat):zV #[.bool p,.slice q r s]:=by intro v hv k z e;simp at hv;rcases hv with rfl|rfl<;>cases e
theorem zV.s3 (p:Bool)(q:ze)(r s:Nat)(q2:ze)(r2 s2:Nat):zV #[.bool p,.slice q r s,.slice q2 r2 s2]:=by intro v hv k z e;simp at hv;rcases hv with rfl|rfl|rfl<;>cases e
theorem vI:zV #[.slice none 0 0]:=zV.s1 _ _ _
theorem cX:zV #[.bool false,.slice none 0 0]:=zV.s2 _ _ _ _
theorem WZ {k:IntKind}{l:List Nat}(h:zK w w.heap.size 1 A n (zB k l))(hk:zh w g t cs)(a:zV cs):0<n->∀ad,A=some ad->ad.block≠g:=λhn ad e hg=>by
 have hl:=h.len_;obtain⟨ad',e',_,hc⟩:=h.2 hn;rw [e] at e';injection e' with e';subst e';have h0:=hc 0 (.int k (l.getD 0 0:Nat)) (lw k _ 0 zb);have e0:ad.add 0=ad:=by unfold Addr.add;rw [if_pos rfl]
 rw [e0] at h0;obtain⟨bk,off,pr⟩:=ad;simp only at hg;subst hg;unfold zh at hk;cases pr with
 |none=>
   rw [show w.cell? ⟨bk,off,none⟩=cs[off]? from cell_of_row w bk off _ t (0,0) hk,<-QS] at h0;exact a _ (QJ h0) _ _ rfl
 |some q=>simp [World.cell?,hk] at h0
theorem R7 {k:IntKind}{l:List Nat}(h:zK w w.heap.size 1 A n (zB k l))(hk:zh w g t cs)(a:zV cs)(ho:yb g w w'):zK w' w'.heap.size 1 A n (zB k l):=by
 have c:=WZ h hk a;refine⟨h.1,λhn=>?_⟩;obtain⟨ad,e,hb,hc⟩:=h.2 hn;refine⟨ad,e,by rw [ho.1];exact hb,λj v hv=>?_⟩;rw [ho.2 (ad.add j) (by rw [yk];exact c hn ad e)];exact hc j v hv
theorem uF (h:zp w x A n c)(hk:zh w g t cs)(a:zV cs)(ho:yb g w w'):zp w' x A n c:=⟨R7 h.1 hk a ho,h.2⟩
theorem ZE (h:yf w z b A n c)(hk:zh w g t cs)(a:zV cs)(ho:yb g w w'):yf w' z b A n c:=⟨h.1,uF h.2 hk a ho⟩
theorem jS {r:Rat}(h:zo w r b A n c E k f)(hk:zh w g t cs)(a:zV cs)(ho:yb g w w'):zo w' r b A n c E k f:=by
 refine⟨ZE h.1 hk a ho,?_⟩;obtain⟨x,e,hx⟩:=h.2;exact⟨x,e,uF hx hk a ho⟩
def zn (K:Nat)(r:Rat):Prop:=y4 (18446744073709551616^K) r
theorem zn.up {r:Rat}(h:zn K r)(hk:K<=K'):zn K' r:=y4.up h (qR zf hk)
theorem Xt (K K':Nat):2*(18446744073709551616^K*18446744073709551616^K')<=18446744073709551616^(K+K'+1):=by
 rw [QK,xI,QQ];exact QM _ zf
theorem zn.add {r:Rat}(h:zn K r)(h':zn K' s):zn (K+K'+1) (r+s):=y4.up (y4.add h h') (Xt K K')
theorem zn.sub {r:Rat}(h:zn K r)(h':zn K' s):zn (K+K'+1) (r - s):=y4.up (y4.sub h h') (Xt K K')
theorem zn.mul {r:Rat}(h:zn K r)(h':zn K' s):zn (K+K') (r*s):=y4.up (y4.mul h h') (by rw [xI];exact qX _)
theorem zn.div {r:Rat}(h:zn K r)(h':zn K' s):zn (K+K') (r / s):=y4.up (y4.div h h') (by rw [xI];exact qX _)
theorem zn.neg {r:Rat}(h:zn K r):zn K (-r):=y4.neg h
theorem zn.inv {r:Rat}(h:zn K r):zn K r⁻¹:=y4.inv h
theorem zn.abs {r:Rat}(h:zn K r):zn K r.abs:=by
 unfold Rat.abs
 split
 ·exact h
 ·exact h.neg
theorem zn.min {r:Rat}(h:zn K r)(h':zn K' s):zn (K+K') (iU r s):=by
 unfold iU
 split
 ·exact h.up zb
 ·exact h'.up zb
theorem zn.num {r:Rat}(h:zn K r):Sz K r.num.natAbs:=h.1
theorem zn.den {r:Rat}(h:zn K r):Sz K r.den:=h.2
theorem eE (h:0<K):1<18446744073709551616^K:=Nat.one_lt_pow zb zf
theorem zn.whole (h:Sz K z.natAbs)(hK:0<K):zn K (z:Rat):=y4.whole h (eE hK)
theorem zn.made {K:Nat}{p q:Int}(h:Sz K p.natAbs)(h':Sz K q.natAbs)(hK:0<K):zn K (Rat.divInt p q):=y4.made h h' (eE hK)
theorem zn.zero:zn 1 (0:Rat):=⟨zf,zf⟩
theorem zn.fit {r:Rat}(h:zn K r){w:World}{b:Bool}{A:ze}{n c:Nat}{E:ze}{k f:Nat}(hr:zo w r b A n c E k f)(hK:K<=67108864):zU n k:=by
 refine⟨qH (h.num.words hr.1.2) (qH hK zf),?_⟩;obtain⟨x,⟨e,_⟩,hx⟩:=hr.2;have hd:Sz K x:=h.den.of_le (by rw [e];split<;>omega);exact qH (hd.words hx) (qH hK zf)
def Cs (w:World):List (Addr×Value)->Prop
 |[]=>True
 |q::t=>w.cell? q.1=some q.2/\Cs w t
theorem zQ:Cs w []:=trivial
theorem zk {p:Addr}{l:List (Addr×Value)}(h:w.cell? p=some v)(t:Cs w l):Cs w ((p,v)::l):=⟨h,t⟩
theorem Cs.below {l:List (Addr×Value)}(h:Cs w l)(hb:Below w.heap.size w w'):Cs w' l:=by
 induction l with
 |nil=>trivial
 |cons q t ih=>exact⟨zv hb h.1,ih h.2⟩
theorem Cs.drew {l:List (Addr×Value)}(h:Cs w l):Cs w.drew l:=by
 induction l with
 |nil=>trivial
 |cons q t ih=>exact⟨h.1,ih h.2⟩
def vB (g:Nat):List (Addr×Value)->Prop
 |[]=>True
 |q::t=>q.1.block≠g/\vB g t
theorem Cs.far {l:List (Addr×Value)}(h:Cs w l)(hf:yb g w w')(hn:vB g l):Cs w' l:=by
 induction l with
 |nil=>trivial
 |cons q t ih=>exact⟨(hf.2 q.1 hn.1).trans h.1,ih h.2 hn.2⟩
theorem cT {l:List (Addr×Value)}(x y:Value)(h:Cs w l)(hn:vB g l:=by(simp only [vB,and_true];try omega)):Cs ((w.setCell ⟨g,0,none⟩ x).setCell ⟨g,1,none⟩ y) l:=h.far (vJ w g x y) hn
theorem vU {l:List (Addr×Value)}(x y z:Value)(h:Cs w l)(hn:vB g l:=by(simp only [vB,and_true];try omega)):Cs (((w.setCell ⟨g,0,none⟩ x).setCell ⟨g,1,none⟩ y).setCell ⟨g,2,none⟩ z) l:=h.far (wB w g x y z) hn
theorem yl:(∀(a:Act) (d:Nat) (v:Value),a.put (some d) v={tmps:=a.tmps.setIfInBounds d v,defers:=a.defers})/\(∀(a:Act) (v:Value),a.put none v=a)/\(∀(l:List Value) (i:Nat) (v:Value),l.toArray.setIfInBounds i v=(l.set i v).toArray)/\(∀(x:Value) (l:List Value) (v:Value),(x::l).set 0 v=v::l)/\(∀(x:Value) (l:List Value) (i:Nat) (v:Value),(x::l).set (i+1) v=x::l.set i v):=
 ⟨λ_ _ _=>rfl,λ_ _=>rfl,λ_ _ _=>qU ..,λ_ _ _=>rfl,λ_ _ _ _=>rfl⟩
section
variable {P:Program}{ops:Array Oper}{Q:Exit->Act->World->Prop}{S:World->Prop}{fuel:Nat}{l:Array Bool}{a:Act}{w:World}
theorem rg {cl:List (Addr×Value)}(h0:Cs w cl)(h:Cs w.drew cl->wpAnyH P .any ops (NoPanic Q) (λw'=>Cs w' cl) ops.size (Array.replicate ops.size false) a w.drew)(hm:P.follows Departure.mixedOrders=true:=by kernel_rfl):Code.wp P (.region id ops true) Q a w:=
 wp_region_noPanic (wp_region_held_drew (S:=λw'=>Cs w' cl) hm h0.drew h)
theorem tk (i:Nat){o:Oper}{v:Value}{a':Act}(hn:wpAnyH P .any ops (NoPanic Q) S fuel (l.setIfInBounds i true) a' w)(h1:ops[i]?=some o:=by simp only [QO,qC,QV];rfl)(h2:Region.noSelect ops=true:=by kernel_rfl)(h3:Region.free .any ops l i=true:=by kernel_rfl)(h4:(Region.ready .any ops l).contains i=true:=by kernel_rfl)(h5:Region.wanted o (yielded ops a.tmps)=true:=by rfl)(h6:∀w,S w->Sem.run P (execOp a.eval o) w=Result.ok (Next.value v) w:=by((intro w c;(try dsimp only [Cs] at c);go_simp);(try with_reducible rfl)))(hS:S w:=by with_reducible assumption)(ha:a.put o.dst v=a':=by(simp only [yl];try rfl)):wpAnyH P .any ops (NoPanic Q) S (fuel+1) l a w:=
 wpAnyH_take h1 h2 h3 h4 (λ_ _ _ h=>h) (Or.inl ⟨h5,h6⟩) hS (ha▸hn)
theorem rc (i:Nat){o:Oper}(hk:∀K':Act->World->Prop,Shut (∀(a:Act) (w:World),S w->(S w->wpAnyH P .any ops (NoPanic Q) S fuel (l.setIfInBounds i true) a w)->K' a w)->Oper.wp P o a w K' (NoPanic Q))(h1:ops[i]?=some o:=by simp only [QO,qC,QV];rfl)(h2:Region.ready .any ops l=[i]:=by kernel_rfl)(h3:Region.wanted o (yielded ops a.tmps)=true:=by rfl):wpAnyH P .any ops (NoPanic Q) S (fuel+1) l a w:=
 wpAnyH_ready h2 zA (AllReadyH.cons h1 (λK' hK=>by rw [if_pos h3];exact hk K' hK) AllReadyH.nil)
theorem zN (h:Q .normal a w)(hr:Region.ready .any ops l=[]:=by kernel_rfl):wpAnyH P .any ops (NoPanic Q) S fuel l a w:=wpAnyH_done hr (NoPanic.normal h) fuel
variable {ops0:Array Oper}{md:Region.Mode}{i:Nat}
theorem wW (d k:Nat){o:Oper}{e:Edge}(hi:i ∈ Region.ready md ops l)(hO:ops=ops0)(ho:ops0[i]?=some o:=by simp only [QO,qC,QV];rfl)(he:o.after[k]?=some e:=by rfl)(hb:Region.binds md e=true:=by rfl)(hd:e.on=d:=by rfl):l.getD d false=true:=by
 subst hO;subst hd;exact R8 hi ho he hb
theorem oB (i:Nat){o:Oper}(h:Region.ready md ops l=[])(hO:ops=ops0)(ho:ops0[i]?=some o:=by simp only [QO,qC,QV];rfl)(hr:(o.after.toList.all λe=> !Region.binds md e||l.getD e.on false)=true:=by rfl):l.getD i true=true:=by
 subst hO;exact SV h ho hr
theorem oD (i:Nat){L l:Array Bool}(h:L=l):l.getD i false=L.getD i false:=by rw [h]
theorem Gd.off (h:Gd b (false=true)):b=false:=by
 cases b
 ·rfl
 ·exact absurd (h rfl) zf
theorem oJ {o:Oper}{K:Act->World->Prop}{Q:Exit->Act->World->Prop}(hO:ops=ops0)(h:∀K':Act->World->Prop,Shut (∀a w,K a w->K' a w)->Oper.wp P o a w K' Q)(ho:ops0[i]?=some o:=by simp only [QO,qC,QV];rfl)(hg:o.guard=none:=by rfl):wpOp P ops Q i K a w:=by
 subst hO;exact cG ho hg h
theorem oE {f:Bool}{a:Act}(h:Gd f (a.tmps.getD x undef=u))(hn:x≠i:=by decide):Gd f ((a.put (some i) v).tmps.getD x undef=u):=h.mono λh=>(oT hn _).trans h
theorem kq {f:Bool}{a:Act}{p q:Prop}(h:Gd f (a.tmps.getD x undef=u/\p))(g:p->q)(hn:x≠i:=by decide):Gd f ((a.put (some i) v).tmps.getD x undef=u/\q):=h.mono λh=>⟨(oT hn _).trans h.1,g h.2⟩
end
theorem zh.c1 {x:Value}(h:zh w g t #[x]):w.cell? ⟨g,0,none⟩=some x:=h.cell 0
theorem zh.c2 {x:Value}(h:zh w g t #[x,y]):w.cell? ⟨g,0,none⟩=some x/\w.cell? ⟨g,1,none⟩=some y:=⟨h.cell 0,h.cell 1⟩
theorem zh.c3 {x z:Value}(h:zh w g t #[x,y,z]):w.cell? ⟨g,0,none⟩=some x/\w.cell? ⟨g,1,none⟩=some y/\w.cell? ⟨g,2,none⟩=some z:=⟨h.cell 0,h.cell 1,h.cell 2⟩
theorem jG (h:zh w g t #[a]):w.cell? ⟨g,0,none⟩=some a/\w.frozen? ⟨g,0,none⟩=false:=⟨h.cell 0,h.frozen 0⟩
theorem ue {b:Value}(h:zh w g t #[a,b])(x:Value):w.cell? ⟨g,0,none⟩=some a/\w.frozen? ⟨g,0,none⟩=false/\(w.setCell ⟨g,0,none⟩ x).cell? ⟨g,1,none⟩=some b/\(w.setCell ⟨g,0,none⟩ x).frozen? ⟨g,1,none⟩=false:=⟨h.cell 0,h.frozen 0,(h.set_ 0 x).cell 1,(h.set_ 0 x).frozen 1⟩
theorem zY {b c:Value}(h:zh w g t #[a,b,c])(x y:Value):w.cell? ⟨g,0,none⟩=some a/\w.frozen? ⟨g,0,none⟩=false/\(w.setCell ⟨g,0,none⟩ x).cell? ⟨g,1,none⟩=some b/\(w.setCell ⟨g,0,none⟩ x).frozen? ⟨g,1,none⟩=false/\((w.setCell ⟨g,0,none⟩ x).setCell ⟨g,1,none⟩ y).cell? ⟨g,2,none⟩=some c/\((w.setCell ⟨g,0,none⟩ x).setCell ⟨g,1,none⟩ y).frozen? ⟨g,2,none⟩=false:=
 ⟨h.cell 0,h.frozen 0,(h.set_ 0 x).cell 1,(h.set_ 0 x).frozen 1,((h.set_ 0 x).set_ 1 y).cell 2,((h.set_ 0 x).set_ 1 y).frozen 2⟩
theorem kK (h:zh w g t #[a])(x:Value):zh (w.setCell ⟨g,0,none⟩ x) g t #[x]:=h.set_ 0 x
theorem ud {b:Value}(h:zh w g t #[a,b])(x y:Value):zh ((w.setCell ⟨g,0,none⟩ x).setCell ⟨g,1,none⟩ y) g t #[x,y]:=(h.set_ 0 x).set_ 1 y
theorem z6 {b c:Value}(h:zh w g t #[a,b,c])(x y z:Value):zh (((w.setCell ⟨g,0,none⟩ x).setCell ⟨g,1,none⟩ y).setCell ⟨g,2,none⟩ z) g t #[x,y,z]:=((h.set_ 0 x).set_ 1 y).set_ 2 z
theorem iD (x:Value)(hg:w.heap.size<=g)(h:Below w.heap.size w W):Below w.heap.size w (W.setCell ⟨g,0,none⟩ x):=zM x hg h
theorem lU (x y:Value)(hg:w.heap.size<=g)(h:Below w.heap.size w W):Below w.heap.size w ((W.setCell ⟨g,0,none⟩ x).setCell ⟨g,1,none⟩ y):=zM y hg (zM x hg h)
theorem wF (x y z:Value)(hg:w.heap.size<=g)(h:Below w.heap.size w W):Below w.heap.size w (((W.setCell ⟨g,0,none⟩ x).setCell ⟨g,1,none⟩ y).setCell ⟨g,2,none⟩ z):=zM z hg (lU x y hg h)
theorem Z6 {q:ze}{r s:Nat}(h:zp W x A n c)(k:zh W g t #[.slice q r s])(hB:Below w.heap.size w W)(hg:w.heap.size<=g):jg w x (.returned (.agg #[.slice A n c])) (W.setCell ⟨g,0,none⟩ (.slice A n c)):=
 ⟨_,_,_,rfl,uF h k (zV.s1 _ _ _) (sO _ _ _),iD _ hg hB⟩
theorem cV {q:ze}{r s:Nat}(h:yf W z b A n c)(k:zh W g t #[.bool p,.slice q r s])(hB:Below w.heap.size w W)(hg:w.heap.size<=g):wf w z (.returned (.agg #[.bool b,.slice A n c])) ((W.setCell ⟨g,0,none⟩ (.bool b)).setCell ⟨g,1,none⟩ (.slice A n c)):=
 ⟨_,_,_,_,rfl,ZE h k (zV.s2 _ _ _ _) (vJ _ _ _ _),lU _ _ hg hB⟩
theorem wR {r:Rat}{q q2:ze}{r1 s r2 s2:Nat}(h:zo W r b A n c E k f)(kd:zh W g t #[.bool p,.slice q r1 s,.slice q2 r2 s2])(hB:Below w.heap.size w W)(hg:w.heap.size<=g):yi w r (.returned (.agg #[.bool b,.slice A n c,.slice E k f])) (((W.setCell ⟨g,0,none⟩ (.bool b)).setCell ⟨g,1,none⟩ (.slice A n c)).setCell ⟨g,2,none⟩ (.slice E k f)):=
 ⟨_,_,_,_,_,_,_,rfl,jS h kd (zV.s3 _ _ _ _ _ _ _) (wB _ _ _ _ _),wF _ _ _ hg hB⟩
theorem ll {r:Rat}(u:Bool){g:Nat}{t:TypeId}{b:Bool}{A E:ze}{n c k f:Nat}{p:Bool}{q q2:ze}{r1 s r2 s2:Nat}(h:zo W r b A n c E k f)(kd:zh W g t #[.bool p,.slice q r1 s,.slice q2 r2 s2])(hB:Below w.heap.size w W)(hg:w.heap.size<=g):ug w r u (.returned (.tuple #[.agg #[.bool b,.slice A n c,.slice E k f],.bool u])) (((W.setCell ⟨g,0,none⟩ (.bool b)).setCell ⟨g,1,none⟩ (.slice A n c)).setCell ⟨g,2,none⟩ (.slice E k f)):=
 ⟨_,_,_,_,_,_,_,rfl,jS h kd (zV.s3 _ _ _ _ _ _ _) (wB _ _ _ _ _),wF _ _ _ hg hB⟩
section
variable {P:Program}{ops:Array Oper}{Q:Exit->Act->World->Prop}{S:World->Prop}{fuel:Nat}{l:Array Bool}{a:Act}{w:World}
theorem kH (h:Below w.heap.size w w.drew->wpAnyH P .any ops (NoPanic Q) (λw'=>Below w.heap.size w w') ops.size (Array.replicate ops.size false) a w.drew)(hm:P.follows Departure.mixedOrders=true:=by kernel_rfl):Code.wp P (.region id ops true) Q a w:=
 wp_region_noPanic (wp_region_held_drew (S:=λw'=>Below w.heap.size w w') hm (qZ _ w).drew h)
theorem tl (i:Nat){cl:List (Addr×Value)}(hc:∀w,S w->Cs w cl){o:Oper}{v:Value}{a':Act}(hn:wpAnyH P .any ops (NoPanic Q) S fuel (l.setIfInBounds i true) a' w)(h1:ops[i]?=some o:=by simp only [QO,qC,QV];rfl)(h2:Region.noSelect ops=true:=by kernel_rfl)(h3:Region.free .any ops l i=true:=by kernel_rfl)(h4:(Region.ready .any ops l).contains i=true:=by kernel_rfl)(h5:Region.wanted o (yielded ops a.tmps)=true:=by rfl)(h6:∀w,Cs w cl->Sem.run P (execOp a.eval o) w=Result.ok (Next.value v) w:=by((intro w c;(try dsimp only [Cs] at c);go_simp);(try with_reducible rfl)))(hS:S w:=by with_reducible assumption)(ha:a.put o.dst v=a':=by(simp only [yl];try rfl)):wpAnyH P .any ops (NoPanic Q) S (fuel+1) l a w:=
 wpAnyH_take h1 h2 h3 h4 (λ_ _ _ h=>h) (Or.inl ⟨h5,λw hs=>h6 w (hc w hs)⟩) hS (ha▸hn)
end
theorem y5 (h:zd (Sz K x))(k:zp w x A n c)(e:K<=B:=by omega):n<=B:=qH (h.o.words k) e
theorem yw {K:Nat}(h:zd (Sz K z.natAbs))(k:yf w z b A n c)(e:K<=B:=by omega):n<=B:=qH (h.o.words k.words) e
theorem szq {r:Rat}(h:zd (zn K r))(q:zo w r b A n c E k f)(e:K<=67108864:=by omega):zU n k:=zn.fit h.o q e
set_option maxRecDepth 100000
theorem gO (x:Nat)(A:ze)(n c:Nat)(w:World)(hA:zp w x A n c)(hn:n<=1):
  Calls prog 112 #[.agg #[.slice A n c]] w λe w'=>e=.returned (.tuple #[.int .u64 (wd x 0:Nat),.bool true])/\Below w.heap.size w w':=by
 have WX:=(λw' (h:Below w.heap.size w w')=>lF x A n c 0 w' (hA.below h));obtain⟨a,ha⟩:∃a,wd x 0=a:=⟨_,rfl⟩;rw [ha] at WX⊢;have d:=za WX;have h1:decide ((1:Int)<(n:Int))=false:=by simp;omega
 have h2:decide ((n:Int)>1)=false:=by simp;omega
 have h3:¬ 1<n:=zb;clear WX ha hA;go_enter func112,ntmps112;go_wp2_with fail;obtain⟨b1,b2,b5⟩:=zu w 48 #[.slice A n c];refine(d.o _ b1).mono ?_;rintro e w1 ⟨rfl,hb⟩;have hB:=zc b1 hb;clear hb b1 b2 b5;go_wp2
 go_ret2
 exact⟨rfl,hB⟩
theorem gL (A:ze)(n c:Nat)(w:World)(hn:1<n):
  Calls prog 112 #[.agg #[.slice A n c]] w λe w'=>e=.returned (.tuple #[.int .u64 0,.bool false])/\Below w.heap.size w w':=by
 go_enter func112,ntmps112;go_wp2
 go_ret2
 exact⟨rfl,(qZ _ w).alloc (qX _) _⟩
def TW (x t:Nat):Prop:=(x=0/\t=0)\/∃m,x=2^t*(2*m+1)
def wj (x:Nat):Nat:=if x=0 then 0 else Lib.ctzFrom x x
theorem cO {t:Nat}(h:x=2^t*(2*m+1)):x / 2^t%2=1:=by
 rw [h,XS _ (xS t)];omega
theorem pR {t j:Nat}(h:x=2^t*(2*m+1))(hj:j<t):x / 2^j%2=0:=by
 obtain⟨s,rfl⟩:∃s,t=j+(s+1):=⟨t - j - 1,zb⟩;rw [h,xI,qD,XS _ (xS j),QK,QQ (2^s) 2,qD];exact Nat.mul_mod_right _ _
theorem pS {t:Nat}(h:x=2^t*(2*m+1)):x≠0:=by
 have:=xS t;rw [h];exact Nat.ne_of_gt (Nat.mul_pos this zb)
theorem tR (x:Nat):TW x (wj x):=by
 unfold TW wj;by_cases h:x=0
 ·exact .inl ⟨h,by rw [if_pos h]⟩
 ·rw [if_neg h];obtain⟨m,hm,_⟩:=Lib.ctzFrom_spec x x zb Nat.lt_two_pow_self;exact .inr ⟨m,hm⟩
theorem mL {t:Nat}(a:∀j,j<t->x / 2^j%2=0)(hx:x=0->t=0)(h1:x≠0->x / 2^t%2=1):t=wj x:=by
 rcases tR x with⟨e,h⟩|⟨m,h⟩
 ·rw [hx e,h]
 ·have h0:=pS h;rcases XK t (wj x) with hl|hl|hl
  ·have:=pR h hl;rw [h1 h0] at this;omega
  ·exact hl
  ·have:=cO h;rw [a _ hl] at this;omega
theorem gI {t m:Nat}(h:x=2^t*(2*m+1)):t=wj x:=
 mL (λj hj=>pR h hj) (λe=>absurd e (pS h)) (λ_=>cO h)
theorem U1 (h0:x%18446744073709551616^k=0)(hw:wd x k≠0):64*k+Lib.ctz 64 (wd x k)=wj x:=by
 have a:=wJ x k;obtain⟨m,hm,hc⟩:=Lib.ctzFrom_spec 64 (wd x k) zb (by simpa using a);have ec:Lib.ctz 64 (wd x k)=Lib.ctzFrom 64 (wd x k):=by unfold Lib.ctz;rw [if_neg hw]
 rw [ec];generalize Lib.ctzFrom 64 (wd x k)=c at*;obtain⟨s,hs⟩:∃s,64=c+(s+1):=⟨63 - c,zb⟩;obtain⟨q,hq⟩:∃q,x / 18446744073709551616^k / 18446744073709551616=q:=⟨_,rfl⟩;have e1:x / 18446744073709551616^k=18446744073709551616*q+wd x k:=by rw [<-hq];exact(yQ _ _).symm
 have e2:x=18446744073709551616^k*(x / 18446744073709551616^k):=by
  have:=yQ x (18446744073709551616^k);rw [h0] at this;omega
 have e3:(18446744073709551616:Nat)=2^c*(2*2^s):=by
  rw [show(18446744073709551616:Nat)=2^64 from rfl,hs,xI,QK,QQ (2^s) 2]
 refine gI (m:=2^s*q+m) ?_;have e4:(18446744073709551616:Nat)^k=2^(64*k):=by rw [show(18446744073709551616:Nat)=2^64 from rfl,<-jK]
 have e5:18446744073709551616*q+wd x k=2^c*(2*(2^s*q+m)+1):=by
  rw [hm]
  conv=>lhs;rw [e3]
  rw [qD,<-qE,qE 2,qD,xA]
 rw [e2,e1,e5,e4,<-qD,<-xI]
theorem Zh (x:Nat)(A:ze)(n c:Nat)(w:World)(hA:zp w x A n c)(hn:n<=1099511627776)(hT:zt w):
  Calls prog 140 #[.agg #[.slice A n c]] w λe w'=>e=.returned (.int .i64 (wj x:Nat))/\Below w.heap.size w w':=by
 have u:=za hA.len;have hr:=hA.1;have HT:=za (λo=>hT.on ((qZ _ w).alloc (qX _) o));have g:∀o,zd (zK (w.alloc o) w.heap.size 1 A n (zB .u64 (dg 18446744073709551616 x))):=λo=>hr.alloc (qX _) o;have HC:=za g;clear hA hT g hr;go_enter func140,ntmps140;go_wp2_with fail
 go_loop [3,4,8] (λ_ _ ix=>∃k:Nat,k<=n/\ix=.int .i64 k/\zd (x%18446744073709551616^k=0)) (λ_ _ ix=>n - (intOf ix).toNat)
 case atStart=>exact⟨0,qW _,rfl,by show _=_;simp [XX]⟩
 case round=>
  obtain⟨k,hk,rfl,H⟩:=hrel;by_cases hlt:k<n
  ·obtain⟨ad,rfl,hadb,d⟩:=se (HC.o (.cells #[.slice A n c] 48)).o hlt;rw [oQ] at d;by_cases hz:wd x k=0
   ·have HN:zd (x%18446744073709551616^(k+1)=0):=by
     show _=_;rw [vW 18446744073709551616 x k,H.o,xB];unfold wd at hz;rw [hz,yC]
    rw [hz] at d;clear hz;go_wp2
    go_round
    case rel=>exact⟨k+1,zb,by go_num,HN⟩
    case measure=>simp [intOf];omega
   ·have HV:=za (U1 H.o hz);have i:=wJ x k;have WT:=(λw' (h:zt w')=>Rb ((wd x k:Nat):Int) ⟨zb,zb⟩ w' h);have m:=lX (wd x k) (by simpa using i);have et:jv ((wd x k:Nat):Int)=((Lib.ctz 64 (wd x k):Nat):Int):=by unfold jv;simp
    rw [et] at WT;obtain⟨t,ht⟩:∃t,Lib.ctz 64 (wd x k)=t:=⟨_,rfl⟩;rw [ht] at WT HV m;obtain⟨a,ha⟩:∃a,wd x k=a:=⟨_,rfl⟩;rw [ha] at d WT hz;have j:=za WT;have hz':((a:Int)==0)=false:=beq_eq_false_iff_ne.2 zb;have hz2:((a:Int) !=0)=true:=by simp;omega
    clear WT ht ha et hz i;go_wp2_with fail;refine(j.o _ (HT.o _)).mono ?_;rintro e w' ⟨rfl,rfl⟩;go_wp2;go_ret;refine⟨mv ?_,(qZ _ w).alloc (qX _) _⟩;have:=HV.o;omega
  ·have s:k=n:=zb;subst s;have HX:zd (wj x=0):=by
    show _=_;have h1:=wh (b:=18446744073709551616) zf x;rw [u.o] at h1;have h2:=H.o;rw [qO h1] at h2;rw [h2];rfl
   go_wp2;go_ret;exact⟨by rw [HX.o];rfl,(qZ _ w).alloc (qX _) _⟩
theorem Uu {r:Rat}{t:Int}{d:Nat}(hd:d≠0)(hc:Nat.gcd t.natAbs d=1)(h:r=Rat.divInt t d):r.num=t/\r.den=d:=by
 have e:(⟨t,d,hd,hc⟩:Rat)=Rat.divInt t d:=Rat.mk_eq_divInt;rw [<-e] at h;subst h;exact⟨rfl,rfl⟩
theorem Zr (t:Int)(h:Nat)(hd:h ∣ t.natAbs):t=(h:Int)*zW (decide (t<0)) (t.natAbs / h):=by
 obtain⟨k,hk⟩:=hd;by_cases h0:h=0
 ·subst h0;rw [Nat.zero_mul] at hk;have:t=0:=Int.natAbs_eq_zero.1 hk;subst this;simp
 have e:t.natAbs / h=k:=by rw [hk];exact XS _ (xN h0)
 rw [e];unfold zW;by_cases ht:t<0
 ·rw [decide_eq_true ht,if_pos rfl,Int.mul_neg,<-QI,<-hk];omega
 ·rw [decide_eq_false ht,if_neg zf,<-QI,<-hk];omega
theorem pE (s u:Bool)(x y:Nat):zW s x*zW u y=zW (s !=u) (x*y):=by
 cases s<;>cases u<;>simp [zW,QI,Int.neg_mul,Int.mul_neg]
theorem Qn {p1 p2 t:Int}{q1 mA mB:Nat}(hc:Nat.gcd p1.natAbs q1=1)(hA:mA ∣ q1)(hm:Nat.gcd mA mB=1)(ht:t=p1*mB+p2*mA):Nat.gcd t.natAbs mA=1:=by
 refine Nat.dvd_one.1 ?_;have h1:Nat.gcd t.natAbs mA ∣ mA:=XI _ _;have h2:Nat.gcd t.natAbs mA ∣ t.natAbs:=yJ _ _;generalize Nat.gcd t.natAbs mA=d at*;have h3:(d:Int)∣ p1*mB:=by
  have a:=Int.ofNat_dvd_left.2 h2;have b:(d:Int)∣ p2*mA:=Int.dvd_trans (Int.ofNat_dvd.2 h1) (Int.dvd_mul_left _ _);have c:=Int.dvd_sub a b;rw [ht,Int.add_sub_cancel] at c;exact c
 have h4:d ∣ p1.natAbs*mB:=by
  have:=Int.ofNat_dvd_left.1 h3;rwa [xR,yB] at this
 have h5:Nat.Coprime d mB:=YX h1 hm;have h6:d ∣ p1.natAbs:=h5.dvd_of_dvd_mul_right h4;have h7:=Nat.dvd_gcd h6 (Nat.dvd_trans h1 hA);rwa [hc] at h7
theorem Pa (a b:Rat){mA mB:Nat}{t:Int}(hA:mA=a.den / Nat.gcd a.den b.den)(hB:mB=b.den / Nat.gcd a.den b.den)(ht:t=a.num*mB+b.num*mA):
  (a+b).num=zW (decide (t<0)) (t.natAbs / Nat.gcd t.natAbs b.den)/\(a+b).den=mA*(b.den / Nat.gcd t.natAbs b.den):=by
 have g0:0<Nat.gcd a.den b.den:=Nat.gcd_pos_of_pos_left _ (xN a.den_nz);have k0:0<Nat.gcd t.natAbs b.den:=Nat.gcd_pos_of_pos_right _ (xN b.den_nz);have ea:Nat.gcd a.den b.den*mA=a.den:=by rw [hA];exact YZ (yJ _ _)
 have eb:Nat.gcd a.den b.den*mB=b.den:=by rw [hB];exact YZ (XI _ _)
 have hm:Nat.gcd mA mB=1:=by rw [hA,hB];exact Nat.gcd_div_gcd_div_gcd_of_pos_left (xN a.den_nz)
 have hp:Nat.gcd t.natAbs mA=1:=Qn a.reduced ⟨_,(QQ mA _▸ea).symm⟩ hm ht;have eh:Nat.gcd t.natAbs b.den*(b.den / Nat.gcd t.natAbs b.den)=b.den:=YZ (XI _ _);have et:=Zr t (Nat.gcd t.natAbs b.den) (yJ _ _);have hq:Nat.gcd (t.natAbs / Nat.gcd t.natAbs b.den) (b.den / Nat.gcd t.natAbs b.den)=1:=YJ (xN b.den_nz);have c:mA≠0:=λh=>a.den_nz (by rw [<-ea,h];rfl);have r0:b.den / Nat.gcd t.natAbs b.den≠0:=λh=>b.den_nz (by rw [<-eh,h];rfl);refine Uu (Nat.mul_ne_zero c r0) ?_ ?_
 ·rw [jd];refine Nat.Coprime.mul_right ?_ hq;exact YX (Nat.div_dvd_of_dvd (yJ _ _)) hp
 ·have e1:a+b=Rat.divInt (a.num*b.den+b.num*a.den) ((a.den*b.den:Nat):Int):=by rw [Rat.add_def'];rfl
  have e2:a.num*(b.den:Int)+b.num*(a.den:Int)=(Nat.gcd a.den b.den:Int)*t:=by
   rw [ht];generalize Nat.gcd a.den b.den=g at*;rw [<-eb,<-ea,QI,QI,Int.mul_add,Int.mul_left_comm,Int.mul_left_comm b.num]
  have e3:((a.den*b.den:Nat):Int)=(Nat.gcd a.den b.den:Int)*((mA*b.den:Nat):Int):=by
   generalize Nat.gcd a.den b.den=g at*;rw [<-ea,qD,QI]
  rw [e1,e2,e3,Rat.divInt_mul_left zb];generalize Nat.gcd t.natAbs b.den=h at*;have e4:((mA*b.den:Nat):Int)=(h:Int)*((mA*(b.den / h):Nat):Int):=by
   conv=>lhs;rw [<-eh]
   rw [Nat.mul_left_comm,QI]
  rw [e4]
  conv=>lhs;rw [et]
  exact Rat.divInt_mul_left zb
theorem Pd (a b:Rat):(a*b).num=zW (decide (a.num<0) !=decide (b.num<0)) (a.num.natAbs / Nat.gcd a.num.natAbs b.den*(b.num.natAbs / Nat.gcd b.num.natAbs a.den))/\
  (a*b).den=a.den / Nat.gcd b.num.natAbs a.den*(b.den / Nat.gcd a.num.natAbs b.den):=by
 have g0:0<Nat.gcd a.num.natAbs b.den:=Nat.gcd_pos_of_pos_right _ (xN b.den_nz);have k0:0<Nat.gcd b.num.natAbs a.den:=Nat.gcd_pos_of_pos_right _ (xN a.den_nz);have ea:Nat.gcd b.num.natAbs a.den*(a.den / Nat.gcd b.num.natAbs a.den)=a.den:=YZ (XI _ _);have eb:Nat.gcd a.num.natAbs b.den*(b.den / Nat.gcd a.num.natAbs b.den)=b.den:=YZ (XI _ _);have ta:=Zr a.num _ (yJ a.num.natAbs b.den);have tb:=Zr b.num _ (yJ b.num.natAbs a.den);have c1:Nat.Coprime (a.num.natAbs / Nat.gcd a.num.natAbs b.den) (b.den / Nat.gcd a.num.natAbs b.den):=YJ (xN b.den_nz);have c2:Nat.Coprime (b.num.natAbs / Nat.gcd b.num.natAbs a.den) (a.den / Nat.gcd b.num.natAbs a.den):=YJ (xN a.den_nz);have c3 : Nat.Coprime (a.num.natAbs / Nat.gcd a.num.natAbs b.den) (a.den / Nat.gcd b.num.natAbs a.den) :=
  YX (Nat.div_dvd_of_dvd (yJ _ _)) (Nat.Coprime.coprime_dvd_right (Nat.div_dvd_of_dvd (XI _ _)) a.reduced)
 have c4 : Nat.Coprime (b.num.natAbs / Nat.gcd b.num.natAbs a.den) (b.den / Nat.gcd a.num.natAbs b.den) :=
  YX (Nat.div_dvd_of_dvd (yJ _ _)) (Nat.Coprime.coprime_dvd_right (Nat.div_dvd_of_dvd (XI _ _)) b.reduced)
 refine Uu (λh=>?_) ?_ ?_
 ·rcases Nat.mul_eq_zero.1 h with h|h
  ·rw [h] at ea;exact a.den_nz ea.symm
  ·rw [h] at eb;exact b.den_nz eb.symm
 ·rw [jd];exact Nat.Coprime.mul_right (Nat.Coprime.mul_left c3 c2) (Nat.Coprime.mul_left c1 c4)
 ·have e1:a*b=Rat.divInt (a.num*b.num) ((a.den*b.den:Nat):Int):=by rw [Rat.mul_def'];rfl
  rw [e1,<-pE];generalize a.num.natAbs / Nat.gcd a.num.natAbs b.den=x1 at*;generalize b.num.natAbs / Nat.gcd b.num.natAbs a.den=x2 at*;generalize b.den / Nat.gcd a.num.natAbs b.den=y2 at*;generalize a.den / Nat.gcd b.num.natAbs a.den=y1 at*;generalize Nat.gcd a.num.natAbs b.den=g at*;generalize Nat.gcd b.num.natAbs a.den=k at*;generalize zW (decide (a.num<0)) x1=u1 at*;generalize zW (decide (b.num<0)) x2=u2 at*;have e2:a.num*b.num=((g*k:Nat):Int)*(u1*u2):=by
   rw [ta,tb,QI];simp only [Int.mul_assoc,Int.mul_left_comm]
  have e3:((a.den*b.den:Nat):Int)=((g*k:Nat):Int)*((y1*y2:Nat):Int):=by
   rw [<-ea,<-eb,<-QI];congr 1;simp only [Nat.mul_left_comm,QQ]
  rw [e2,e3];exact Rat.divInt_mul_left (by have:=Nat.mul_pos g0 k0;omega)
theorem Pb (a:Rat)(h:a≠0):(a⁻¹).num=zW (decide (a.num<0)) a.den/\(a⁻¹).den=a.num.natAbs:=by
 have hn:a.num≠0:=λe=>h (Rat.num_eq_zero.1 e);constructor
 ·rw [Rat.num_inv];unfold zW;rcases Int.lt_or_gt_of_ne hn with h1|h1
  ·rw [Int.sign_eq_neg_one_of_neg h1,decide_eq_true h1,if_pos rfl];omega
  ·rw [Int.sign_eq_one_of_pos h1,decide_eq_false zb,if_neg zf];omega
 ·rw [Rat.den_inv,if_neg hn]
theorem Pe (a:Rat):(-a).num=zW (!decide (a.num<0)) a.num.natAbs/\(-a).den=a.den:=by
 refine⟨?_,rfl⟩;rw [Rat.neg_num];unfold zW;by_cases h:a.num<0
 ·simp [h];omega
 ·simp [h];omega
theorem Qt {a b:Rat}(ha:a.den=1)(hb:b.den=1):(a+b)=((a.num+b.num:Int):Rat):=by
 have h1:a=((a.num:Int):Rat):=Rat.ext (by rw [yW]) (by rw [YQ,ha]);have h2:b=((b.num:Int):Rat):=Rat.ext (by rw [yW]) (by rw [YQ,hb]);rw [Rat.intCast_add,<-h1,<-h2]
theorem Pq {a b:Rat}(h:a=0\/b=0\/a.den=1/\b.den=1):(a*b)=((a.num*b.num:Int):Rat):=by
 rcases h with h|h|⟨ha,hb⟩
 ·subst h;rw [XR,show(0:Rat).num=0 from rfl,Int.zero_mul];rfl
 ·subst h;rw [xO,show(0:Rat).num=0 from rfl,Int.mul_zero];rfl
 ·have h1:a=((a.num:Int):Rat):=Rat.ext (by rw [yW]) (by rw [YQ,ha]);have h2:b=((b.num:Int):Rat):=Rat.ext (by rw [yW]) (by rw [YQ,hb]);rw [yP,<-h1,<-h2]
