/- What this claim leans on. -/
import Derived.Test.YtcojjcjgbepicaaGreatDoorHBunI
namespace Go.Proofs.YtcojjcjgbepicaaGreatDoor
open Go Go.RowKit Go.Proofs.Tryz
set_option maxHeartbeats 16000000
set_option linter.unusedVariables false
def DenIn (w:World)(q:Nat)(A:oA9)(n c:Nat):Prop:=∃x,(q=(if x=0 then 1 else x)/\x≠1)/\zaf w x A n c
theorem DenIn.below {w w':World}{q:Nat}{A:oA9}{n c:Nat}(h:DenIn w q A n c)(hb:Below w.heap.size w w'):DenIn w' q A n c:=by
 obtain⟨x,e,h1⟩:=h;exact⟨x,e,h1.below hb⟩
def zak (w:World)(r:Rat)(b:Bool)(A:oA9)(n c:Nat)(E:oA9)(k f:Nat):Prop:=zaK w r.num b A n c/\DenIn w r.den E k f
theorem zak.below {w w':World}{r:Rat}{b:Bool}{A:oA9}{n c:Nat}{E:oA9}{k f:Nat}(h:zak w r b A n c E k f)(hb:Below w.heap.size w w'):zak w' r b A n c E k f:=⟨h.1.below hb,h.2.below hb⟩
theorem zak.to {w:World}{r s:Rat}{b:Bool}{A:oA9}{n c:Nat}{E:oA9}{k f:Nat}(e:r=s)(h:zak w r b A n c E k f):zak w s b A n c E k f:=e▸h
def zaP (w:World)(r:Rat)(e:Ending)(w':World):Prop:=∃(b:Bool) (A:oA9) (n c:Nat) (E:oA9) (k f:Nat),e=.returned (.agg #[.bool b,.slice A n c,.slice E k f])/\zak w' r b A n c E k f/\Below w.heap.size w w'
def zcb (w:World)(r:Rat)(t:Bool)(e:Ending)(w':World):Prop:=∃(b:Bool) (A:oA9) (n c:Nat) (E:oA9) (k f:Nat),e=.returned (.tuple #[.agg #[.bool b,.slice A n c,.slice E k f],.bool t])/\zak w' r b A n c E k f/\Below w.heap.size w w'
def zaT (n k:Nat):Prop:=n<=67108864/\k<=67108864
structure RatG0 (T:World->Prop):Prop where
 mul:∀(r s:Rat) (b b':Bool) (A A':oA9) (n n' c c':Nat) (E E':oA9) (k k' f f':Nat) (w:World),T w->zak w r b A n c E k f->zak w s b' A' n' c' E' k' f'->zaT n k->zaT n' k'->Calls prog 56 #[.agg #[.bool b,.slice A n c,.slice E k f],.agg #[.bool b',.slice A' n' c',.slice E' k' f']] w (zaP w (r*s))
 div:∀(r s:Rat) (b b':Bool) (A A':oA9) (n n' c c':Nat) (E E':oA9) (k k' f f':Nat) (w:World),T w->zak w r b A n c E k f->zak w s b' A' n' c' E' k' f'->zaT n k->zaT n' k'->s≠0->Calls prog 76 #[.agg #[.bool b,.slice A n c,.slice E k f],.agg #[.bool b',.slice A' n' c',.slice E' k' f']] w (zcb w (r / s) true)
 divNo:∀(r s:Rat) (b b':Bool) (A A':oA9) (n n' c c':Nat) (E E':oA9) (k k' f f':Nat) (w:World),T w->zak w r b A n c E k f->zak w s b' A' n' c' E' k' f'->zaT n k->zaT n' k'->s=0->Calls prog 76 #[.agg #[.bool b,.slice A n c,.slice E k f],.agg #[.bool b',.slice A' n' c',.slice E' k' f']] w (zcb w 0 false)
structure RatG1 (T:World->Prop):Prop where
structure RatG2 (T:World->Prop):Prop where
 int:∀(z:Int) (w:World),T w-> -9223372036854775808<=z->z<=9223372036854775807->Calls prog 47 #[.int .i64 z] w (zaP w (z:Rat))
 whole:∀(z:Int) (b:Bool) (A:oA9) (n c:Nat) (w:World),T w->zaK w z b A n c->n<=67108864->Calls prog 176 #[.agg #[.bool b,.slice A n c]] w (zaP w (z:Rat))
structure RatC (T:World->Prop)(M:Nat->Prop):Prop where
 g0:M 0->RatG0 T
 g1:M 1->RatG1 T
 g2:M 2->RatG2 T
 new:∀(p q:Int) (b b':Bool) (A D:oA9) (n m c d:Nat) (w:World),T w->zaK w p b A n c->zaK w q b' D m d->n<=67108864->m<=67108864->q≠0->Calls prog 166 #[.agg #[.bool b,.slice A n c],.agg #[.bool b',.slice D m d]] w (zcb w (Rat.divInt p q) true)
 newNo:∀(p q:Int) (b b':Bool) (A D:oA9) (n m c d:Nat) (w:World),T w->zaK w p b A n c->zaK w q b' D m d->n<=67108864->m<=67108864->q=0->Calls prog 166 #[.agg #[.bool b,.slice A n c],.agg #[.bool b',.slice D m d]] w (zcb w 0 false)
 of:∀(p q:Int) (w:World),T w-> -9223372036854775808<=p->p<=9223372036854775807-> -9223372036854775808<=q->q<=9223372036854775807->q≠0->Calls prog 116 #[.int .i64 p,.int .i64 q] w (zcb w (Rat.divInt p q) true)
 ofNo:∀(p q:Int) (w:World),T w-> -9223372036854775808<=p->p<=9223372036854775807->q=0->Calls prog 116 #[.int .i64 p,.int .i64 q] w (zcb w 0 false)
 num:∀(r:Rat) (b:Bool) (A:oA9) (n c:Nat) (E:oA9) (k f:Nat) (w:World),T w->zak w r b A n c E k f->zaT n k->Calls prog 87 #[.agg #[.bool b,.slice A n c,.slice E k f]] w (zbi w r.num)
 den:∀(r:Rat) (b:Bool) (A:oA9) (n c:Nat) (E:oA9) (k f:Nat) (w:World),T w->zak w r b A n c E k f->zaT n k->Calls prog 89 #[.agg #[.bool b,.slice A n c,.slice E k f]] w (zeU w r.den)
 sign:∀(r:Rat) (b:Bool) (A:oA9) (n c:Nat) (E:oA9) (k f:Nat) (w:World),T w->zak w r b A n c E k f->zaT n k->Calls prog 77 #[.agg #[.bool b,.slice A n c,.slice E k f]] w (zcl w (sgnQ r))
 zero:∀(r:Rat) (b:Bool) (A:oA9) (n c:Nat) (E:oA9) (k f:Nat) (w:World),T w->zak w r b A n c E k f->zaT n k->Calls prog 24 #[.agg #[.bool b,.slice A n c,.slice E k f]] w λe w'=>e=.returned (.bool (decide (r=0)))/\Below w.heap.size w w'
 isInt:∀(r:Rat) (b:Bool) (A:oA9) (n c:Nat) (E:oA9) (k f:Nat) (w:World),T w->zak w r b A n c E k f->zaT n k->Calls prog 90 #[.agg #[.bool b,.slice A n c,.slice E k f]] w λe w'=>e=.returned (.bool (decide (r.den=1)))/\Below w.heap.size w w'
 bits:∀(r:Rat) (b:Bool) (A:oA9) (n c:Nat) (E:oA9) (k f:Nat) (w:World),T w->zak w r b A n c E k f->zaT n k->Calls prog 91 #[.agg #[.bool b,.slice A n c,.slice E k f]] w (zcl w ((bitLen r.num.natAbs+bitLen r.den:Nat):Int))
 neg:∀(r:Rat) (b:Bool) (A:oA9) (n c:Nat) (E:oA9) (k f:Nat) (w:World),T w->zak w r b A n c E k f->zaT n k->Calls prog 44 #[.agg #[.bool b,.slice A n c,.slice E k f]] w (zaP w (-r))
 inv:∀(r:Rat) (b:Bool) (A:oA9) (n c:Nat) (E:oA9) (k f:Nat) (w:World),T w->zak w r b A n c E k f->zaT n k->r≠0->Calls prog 138 #[.agg #[.bool b,.slice A n c,.slice E k f]] w (zcb w r⁻¹ true)
 invNo:∀(r:Rat) (b:Bool) (A:oA9) (n c:Nat) (E:oA9) (k f:Nat) (w:World),T w->zak w r b A n c E k f->zaT n k->r=0->Calls prog 138 #[.agg #[.bool b,.slice A n c,.slice E k f]] w (zcb w 0 false)
 add:∀(r s:Rat) (b b':Bool) (A A':oA9) (n n' c c':Nat) (E E':oA9) (k k' f f':Nat) (w:World),T w->zak w r b A n c E k f->zak w s b' A' n' c' E' k' f'->zaT n k->zaT n' k'->Calls prog 104 #[.agg #[.bool b,.slice A n c,.slice E k f],.agg #[.bool b',.slice A' n' c',.slice E' k' f']] w (zaP w (r+s))
 cmp:∀(r s:Rat) (b b':Bool) (A A':oA9) (n n' c c':Nat) (E E':oA9) (k k' f f':Nat) (w:World),T w->zak w r b A n c E k f->zak w s b' A' n' c' E' k' f'->zaT n k->zaT n' k'->Calls prog 164 #[.agg #[.bool b,.slice A n c,.slice E k f],.agg #[.bool b',.slice A' n' c',.slice E' k' f']] w (zcl w (zgx r s))
 same:∀(r s:Rat) (b b':Bool) (A A':oA9) (n n' c c':Nat) (E E':oA9) (k k' f f':Nat) (w:World),T w->zak w r b A n c E k f->zak w s b' A' n' c' E' k' f'->zaT n k->zaT n' k'->Calls prog 55 #[.agg #[.bool b,.slice A n c,.slice E k f],.agg #[.bool b',.slice A' n' c',.slice E' k' f']] w λe w'=>e=.returned (.bool (decide (r=s)))/\Below w.heap.size w w'
def zbS (g:Nat)(w w':World):Prop:=w'.heap.size=w.heap.size/\∀p:Addr,p.block≠g->w'.cell? p=w.cell? p
theorem zbS.refl (g:Nat)(w:World):zbS g w w:=⟨rfl,λ_ _=>rfl⟩
theorem zbS.set_ {g:Nat}{w w':World}(h:zbS g w w')(j:Nat)(v:Value):zbS g w (w'.setCell ⟨g,j,none⟩ v):=
 ⟨by rw [<-h.1];simp,λp hp=>(World.cell?_setCell_other w' ⟨g,j,none⟩ p v (λe=>hp (by first|rw [e]|rw [<-e]))).trans (h.2 p hp)⟩
theorem zci (w:World)(g:Nat)(v0:Value):zbS g w (w.setCell ⟨g,0,none⟩ v0):=(zbS.refl g w).set_ 0 v0
theorem zcM (w:World)(g:Nat)(v0 v1:Value):zbS g w ((w.setCell ⟨g,0,none⟩ v0).setCell ⟨g,1,none⟩ v1):=(zci w g v0).set_ 1 v1
theorem off3 (w:World)(g:Nat)(v0 v1 v2:Value):zbS g w (((w.setCell ⟨g,0,none⟩ v0).setCell ⟨g,1,none⟩ v1).setCell ⟨g,2,none⟩ v2):=(zcM w g v0 v1).set_ 2 v2
def NoU (cs:Array Value):Prop:=∀v ∈ cs.toList,∀k z,v≠.int k z
theorem NoU.s1 (q:oA9)(r s:Nat):NoU #[.slice q r s]:=by intro v hv k z e;simp at hv;subst hv;cases e
theorem NoU.s2 (p:Bool)(q:oA9)(r s:Nat):NoU #[.bool p,.slice q r s]:=by intro v hv k z e;simp at hv;rcases hv with rfl|rfl<;>cases e
theorem NoU.s3 (p:Bool)(q:oA9)(r s:Nat)(q2:oA9)(r2 s2:Nat):NoU #[.bool p,.slice q r s,.slice q2 r2 s2]:=by intro v hv k z e;simp at hv;rcases hv with rfl|rfl|rfl<;>cases e
theorem zcA:NoU #[.slice none 0 0]:=NoU.s1 _ _ _
theorem nou2:NoU #[.bool false,.slice none 0 0]:=NoU.s2 _ _ _ _
theorem zkD {w:World}{A:oA9}{n g:Nat}{k:IntKind}{l:List Nat}{t:TypeId}{cs:Array Value}(h:zav w w.heap.size 1 A n (zaw k l))(hk:Blk w g t cs)(a:NoU cs):0<n->∀ad,A=some ad->ad.block≠g:=λhn ad e hg=>by
 have hl:=h.len_;obtain⟨ad',e',_,hc⟩:=h.2 hn;rw [e] at e';injection e' with e';subst e';have h0:=hc 0 (.int k (l.getD 0 0:Nat)) (zcO k _ 0 om9);have e0:ad.add 0=ad:=by unfold Addr.add;rw [if_pos rfl]
 rw [e0] at h0;obtain⟨bk,off,pr⟩:=ad;simp only at hg;subst hg;unfold Blk at hk;cases pr with
 |none=>
   rw [show w.cell? ⟨bk,off,none⟩=cs[off]? from cell_of_row w bk off _ t (0,0) hk,<-Array.getElem?_toList] at h0;exact a _ (List.mem_of_getElem? h0) _ _ rfl
 |some q=>simp [World.cell?,hk] at h0
theorem zkE {w w':World}{A:oA9}{n g:Nat}{k:IntKind}{l:List Nat}{t:TypeId}{cs:Array Value}(h:zav w w.heap.size 1 A n (zaw k l))(hk:Blk w g t cs)(a:NoU cs)(ho:zbS g w w'):zav w' w'.heap.size 1 A n (zaw k l):=by
 have b:=zkD h hk a;refine⟨h.1,λhn=>?_⟩;obtain⟨ad,e,hb,hc⟩:=h.2 hn;refine⟨ad,e,by rw [ho.1];exact hb,λj v hv=>?_⟩;rw [ho.2 (ad.add j) (by rw [zan];exact b hn ad e)];exact hc j v hv
theorem zaA {w w':World}{x:Nat}{A:oA9}{n c g:Nat}{t:TypeId}{cs:Array Value}(h:zaf w x A n c)(hk:Blk w g t cs)(a:NoU cs)(ho:zbS g w w'):zaf w' x A n c:=⟨zkE h.1 hk a ho,h.2⟩
theorem zhc {w w':World}{z:Int}{b:Bool}{A:oA9}{n c g:Nat}{t:TypeId}{cs:Array Value}(h:zaK w z b A n c)(hk:Blk w g t cs)(a:NoU cs)(ho:zbS g w w'):zaK w' z b A n c:=⟨h.1,zaA h.2 hk a ho⟩
theorem ziP {w w':World}{r:Rat}{b:Bool}{A:oA9}{n c:Nat}{E:oA9}{k f:Nat}{g:Nat}{t:TypeId}{cs:Array Value}(h:zak w r b A n c E k f)(hk:Blk w g t cs)(a:NoU cs)(ho:zbS g w w'):zak w' r b A n c E k f:=by
 refine⟨zhc h.1 hk a ho,?_⟩;obtain⟨x,e,hx⟩:=h.2;exact⟨x,e,zaA hx hk a ho⟩
def SzQ (K:Nat)(r:Rat):Prop:=LtQ (18446744073709551616^K) r
theorem SzQ.up {K K':Nat}{r:Rat}(h:SzQ K r)(hk:K<=K'):SzQ K' r:=LtQ.up h (Nat.pow_le_pow_right de9 hk)
theorem zoE (K K':Nat):2*(18446744073709551616^K*18446744073709551616^K')<=18446744073709551616^(K+K'+1):=by
 rw [Nat.pow_succ,Nat.pow_add,Nat.mul_comm];exact Nat.mul_le_mul_left _ de9
theorem SzQ.add {K K':Nat}{r s:Rat}(h:SzQ K r)(h':SzQ K' s):SzQ (K+K'+1) (r+s):=LtQ.up (LtQ.add h h') (zoE K K')
theorem SzQ.mul {K K':Nat}{r s:Rat}(h:SzQ K r)(h':SzQ K' s):SzQ (K+K') (r*s):=LtQ.up (LtQ.mul h h') (by rw [Nat.pow_add];exact Nat.le_refl _)
theorem SzQ.neg {K:Nat}{r:Rat}(h:SzQ K r):SzQ K (-r):=LtQ.neg h
theorem SzQ.abs {K:Nat}{r:Rat}(h:SzQ K r):SzQ K r.abs:=by
 unfold Rat.abs
 split
 ·exact h
 ·exact h.neg
theorem SzQ.num {K:Nat}{r:Rat}(h:SzQ K r):Sz K r.num.natAbs:=h.1
theorem SzQ.den {K:Nat}{r:Rat}(h:SzQ K r):Sz K r.den:=h.2
theorem zdc {K:Nat}(h:0<K):1<18446744073709551616^K:=Nat.one_lt_pow om9 de9
theorem SzQ.whole {K:Nat}{z:Int}(h:Sz K z.natAbs)(hK:0<K):SzQ K (z:Rat):=LtQ.whole h (zdc hK)
theorem SzQ.made {K:Nat}{p q:Int}(h:Sz K p.natAbs)(h':Sz K q.natAbs)(hK:0<K):SzQ K (Rat.divInt p q):=LtQ.made h h' (zdc hK)
theorem SzQ.zero:SzQ 1 (0:Rat):=⟨de9,de9⟩
theorem SzQ.fit {K:Nat}{r:Rat}(h:SzQ K r){w:World}{b:Bool}{A:oA9}{n c:Nat}{E:oA9}{k f:Nat}(hr:zak w r b A n c E k f)(hK:K<=67108864):zaT n k:=by
 refine⟨Nat.le_trans (h.num.words hr.1.2) (Nat.le_trans hK de9),?_⟩;obtain⟨x,⟨e,_⟩,hx⟩:=hr.2;have hd:Sz K x:=h.den.of_le (by rw [e];split<;>omega);exact Nat.le_trans (hd.words hx) (Nat.le_trans hK de9)
def Cs (w:World):List (Addr×Value)->Prop
 |[]=>True
 |q::t=>w.cell? q.1=some q.2/\Cs w t
theorem csn {w:World}:Cs w []:=trivial
theorem csc {w:World}{p:Addr}{v:Value}{l:List (Addr×Value)}(h:w.cell? p=some v)(t:Cs w l):Cs w ((p,v)::l):=⟨h,t⟩
theorem Cs.below {w w':World}{l:List (Addr×Value)}(h:Cs w l)(hb:Below w.heap.size w w'):Cs w' l:=by
 induction l with
 |nil=>trivial
 |cons q t ih=>exact⟨zae hb h.1,ih h.2⟩
theorem Cs.drew {w:World}{l:List (Addr×Value)}(h:Cs w l):Cs w.drew l:=by
 induction l with
 |nil=>trivial
 |cons q t ih=>exact⟨h.1,ih h.2⟩
def OffL (g:Nat):List (Addr×Value)->Prop
 |[]=>True
 |q::t=>q.1.block≠g/\OffL g t
theorem Cs.far {w w':World}{g:Nat}{l:List (Addr×Value)}(h:Cs w l)(hf:zbS g w w')(hn:OffL g l):Cs w' l:=by
 induction l with
 |nil=>trivial
 |cons q t ih=>exact⟨(hf.2 q.1 hn.1).trans h.1,ih h.2 hn.2⟩
theorem cs2 {w:World}{g:Nat}{l:List (Addr×Value)}(x y:Value)(h:Cs w l)(hn:OffL g l:=by(simp only [OffL,and_true];try omega)):Cs ((w.setCell ⟨g,0,none⟩ x).setCell ⟨g,1,none⟩ y) l:=h.far (zcM w g x y) hn
theorem cs3 {w:World}{g:Nat}{l:List (Addr×Value)}(x y z:Value)(h:Cs w l)(hn:OffL g l:=by(simp only [OffL,and_true];try omega)):Cs (((w.setCell ⟨g,0,none⟩ x).setCell ⟨g,1,none⟩ y).setCell ⟨g,2,none⟩ z) l:=h.far (off3 w g x y z) hn
theorem sb9:(∀(a:Act) (d:Nat) (v:Value),a.put (some d) v={tmps:=a.tmps.setIfInBounds d v,defers:=a.defers})/\(∀(a:Act) (v:Value),a.put none v=a)/\(∀(l:List Value) (i:Nat) (v:Value),l.toArray.setIfInBounds i v=(l.set i v).toArray)/\(∀(x:Value) (l:List Value) (v:Value),(x::l).set 0 v=v::l)/\(∀(x:Value) (l:List Value) (i:Nat) (v:Value),(x::l).set (i+1) v=x::l.set i v):=
 ⟨λ_ _ _=>rfl,λ_ _=>rfl,λ_ _ _=>List.setIfInBounds_toArray ..,λ_ _ _=>rfl,λ_ _ _ _=>rfl⟩
section
variable {P:Program}{ops:Array Oper}{Q:Exit->Act->World->Prop}{S:World->Prop}{fuel:Nat}{l:Array Bool}{a:Act}{w:World}
theorem rg {id:Nat}{cl:List (Addr×Value)}(h0:Cs w cl)(h:Cs w.drew cl->wpAnyH P .any ops (NoPanic Q) (λw'=>Cs w' cl) ops.size (Array.replicate ops.size false) a w.drew)(hm:P.follows Departure.mixedOrders=true:=by kernel_rfl):Code.wp P (.region id ops true) Q a w:=
 wp_region_noPanic (wp_region_held_drew (S:=λw'=>Cs w' cl) hm h0.drew h)
theorem tk (i:Nat){o:Oper}{v:Value}{a':Act}(hn:wpAnyH P .any ops (NoPanic Q) S fuel (l.setIfInBounds i true) a' w)(h1:ops[i]?=some o:=by simp only [List.getElem?_toArray,List.getElem?_cons_succ,List.getElem?_cons_zero];rfl)(h2:Region.noSelect ops=true:=by kernel_rfl)(h3:Region.free .any ops l i=true:=by kernel_rfl)(h4:(Region.ready .any ops l).contains i=true:=by kernel_rfl)(h5:Region.wanted o (yielded ops a.tmps)=true:=by rfl)(h6:∀w,S w->Sem.run P (execOp a.eval o) w=Result.ok (Next.value v) w:=by((intro w b;(try dsimp only [Cs] at b);go_simp);(try with_reducible rfl)))(hS:S w:=by with_reducible assumption)(ha:a.put o.dst v=a':=by(simp only [sb9];try rfl)):wpAnyH P .any ops (NoPanic Q) S (fuel+1) l a w:=
 wpAnyH_take h1 h2 h3 h4 (λ_ _ _ h=>h) (Or.inl ⟨h5,h6⟩) hS (ha▸hn)
theorem tu (i:Nat){o:Oper}{a':Act}(hn:wpAnyH P .any ops (NoPanic Q) S fuel (l.setIfInBounds i true) a' w)(h1:ops[i]?=some o:=by simp only [List.getElem?_toArray,List.getElem?_cons_succ,List.getElem?_cons_zero];rfl)(h2:Region.noSelect ops=true:=by kernel_rfl)(h3:Region.free .any ops l i=true:=by kernel_rfl)(h4:(Region.ready .any ops l).contains i=true:=by kernel_rfl)(h5:Region.wanted o (yielded ops a.tmps)=false:=by rfl)(hS:S w:=by with_reducible assumption)(ha:a.put o.dst undef=a':=by(simp only [sb9];try rfl)):wpAnyH P .any ops (NoPanic Q) S (fuel+1) l a w:=
 wpAnyH_take h1 h2 h3 h4 (λ_ _ _ h=>h) (Or.inr ⟨h5,rfl⟩) hS (ha▸hn)
theorem rc (i:Nat){o:Oper}(hk:∀K':Act->World->Prop,Shut (∀(a:Act) (w:World),S w->(S w->wpAnyH P .any ops (NoPanic Q) S fuel (l.setIfInBounds i true) a w)->K' a w)->Oper.wp P o a w K' (NoPanic Q))(h1:ops[i]?=some o:=by simp only [List.getElem?_toArray,List.getElem?_cons_succ,List.getElem?_cons_zero];rfl)(h2:Region.ready .any ops l=[i]:=by kernel_rfl)(h3:Region.wanted o (yielded ops a.tmps)=true:=by rfl):wpAnyH P .any ops (NoPanic Q) S (fuel+1) l a w:=
 wpAnyH_ready h2 si9 (AllReadyH.cons h1 (λK' hK=>by rw [if_pos h3];exact hk K' hK) AllReadyH.nil)
theorem rdn (h:Q .normal a w)(hr:Region.ready .any ops l=[]:=by kernel_rfl):wpAnyH P .any ops (NoPanic Q) S fuel l a w:=wpAnyH_done hr (NoPanic.normal h) fuel
variable {ops0:Array Oper}{md:Region.Mode}{i:Nat}
theorem rdp (d k:Nat){o:Oper}{e:Edge}(hi:i ∈ Region.ready md ops l)(hO:ops=ops0)(ho:ops0[i]?=some o:=by simp only [List.getElem?_toArray,List.getElem?_cons_succ,List.getElem?_cons_zero];rfl)(he:o.after[k]?=some e:=by rfl)(hb:Region.binds md e=true:=by rfl)(hd:e.on=d:=by rfl):l.getD d false=true:=by
 subst hO;subst hd;exact zqW hi ho he hb
theorem als (i:Nat){o:Oper}(h:Region.ready md ops l=[])(hO:ops=ops0)(ho:ops0[i]?=some o:=by simp only [List.getElem?_toArray,List.getElem?_cons_succ,List.getElem?_cons_zero];rfl)(hr:(o.after.toList.all λe=> !Region.binds md e||l.getD e.on false)=true:=by rfl):l.getD i true=true:=by
 subst hO;exact znR h ho hr
theorem gdl (i:Nat){L l:Array Bool}(h:L=l):l.getD i false=L.getD i false:=by rw [h]
theorem Gd.off {b:Bool}(h:Gd b (false=true)):b=false:=by
 cases b
 ·rfl
 ·exact absurd (h rfl) de9
theorem wog {o:Oper}{K:Act->World->Prop}{Q:Exit->Act->World->Prop}(hO:ops=ops0)(h:∀K':Act->World->Prop,Shut (∀a w,K a w->K' a w)->Oper.wp P o a w K' Q)(ho:ops0[i]?=some o:=by simp only [List.getElem?_toArray,List.getElem?_cons_succ,List.getElem?_cons_zero];rfl)(hg:o.guard=none:=by rfl):wpOp P ops Q i K a w:=by
 subst hO;exact wpOp_go ho hg h
theorem kq0 {f:Bool}{a:Act}{x i:Nat}{u v:Value}(h:Gd f (a.tmps.getD x undef=u))(hn:x≠i:=by decide):Gd f ((a.put (some i) v).tmps.getD x undef=u):=h.mono λh=>(rd_ne hn _).trans h
theorem kq {f:Bool}{a:Act}{x i:Nat}{u v:Value}{p q:Prop}(h:Gd f (a.tmps.getD x undef=u/\p))(g:p->q)(hn:x≠i:=by decide):Gd f ((a.put (some i) v).tmps.getD x undef=u/\q):=h.mono λh=>⟨(rd_ne hn _).trans h.1,g h.2⟩
end
theorem Blk.c1 {w:World}{g:Nat}{t:TypeId}{x:Value}(h:Blk w g t #[x]):w.cell? ⟨g,0,none⟩=some x:=h.cell 0
theorem Blk.c2 {w:World}{g:Nat}{t:TypeId}{x y:Value}(h:Blk w g t #[x,y]):w.cell? ⟨g,0,none⟩=some x/\w.cell? ⟨g,1,none⟩=some y:=⟨h.cell 0,h.cell 1⟩
theorem Blk.c3 {w:World}{g:Nat}{t:TypeId}{x y z:Value}(h:Blk w g t #[x,y,z]):w.cell? ⟨g,0,none⟩=some x/\w.cell? ⟨g,1,none⟩=some y/\w.cell? ⟨g,2,none⟩=some z:=⟨h.cell 0,h.cell 1,h.cell 2⟩
theorem st1 {w:World}{g:Nat}{t:TypeId}{a:Value}(h:Blk w g t #[a]):w.cell? ⟨g,0,none⟩=some a/\w.frozen? ⟨g,0,none⟩=false:=⟨h.cell 0,h.frozen 0⟩
theorem st2 {w:World}{g:Nat}{t:TypeId}{a b:Value}(h:Blk w g t #[a,b])(x:Value):w.cell? ⟨g,0,none⟩=some a/\w.frozen? ⟨g,0,none⟩=false/\(w.setCell ⟨g,0,none⟩ x).cell? ⟨g,1,none⟩=some b/\(w.setCell ⟨g,0,none⟩ x).frozen? ⟨g,1,none⟩=false:=⟨h.cell 0,h.frozen 0,(h.set_ 0 x).cell 1,(h.set_ 0 x).frozen 1⟩
theorem st3 {w:World}{g:Nat}{t:TypeId}{a b c:Value}(h:Blk w g t #[a,b,c])(x y:Value):w.cell? ⟨g,0,none⟩=some a/\w.frozen? ⟨g,0,none⟩=false/\(w.setCell ⟨g,0,none⟩ x).cell? ⟨g,1,none⟩=some b/\(w.setCell ⟨g,0,none⟩ x).frozen? ⟨g,1,none⟩=false/\((w.setCell ⟨g,0,none⟩ x).setCell ⟨g,1,none⟩ y).cell? ⟨g,2,none⟩=some c/\((w.setCell ⟨g,0,none⟩ x).setCell ⟨g,1,none⟩ y).frozen? ⟨g,2,none⟩=false:=
 ⟨h.cell 0,h.frozen 0,(h.set_ 0 x).cell 1,(h.set_ 0 x).frozen 1,((h.set_ 0 x).set_ 1 y).cell 2,((h.set_ 0 x).set_ 1 y).frozen 2⟩
theorem sn1 {w:World}{g:Nat}{t:TypeId}{a:Value}(h:Blk w g t #[a])(x:Value):Blk (w.setCell ⟨g,0,none⟩ x) g t #[x]:=h.set_ 0 x
theorem sn2 {w:World}{g:Nat}{t:TypeId}{a b:Value}(h:Blk w g t #[a,b])(x y:Value):Blk ((w.setCell ⟨g,0,none⟩ x).setCell ⟨g,1,none⟩ y) g t #[x,y]:=(h.set_ 0 x).set_ 1 y
theorem sn3 {w:World}{g:Nat}{t:TypeId}{a b c:Value}(h:Blk w g t #[a,b,c])(x y z:Value):Blk (((w.setCell ⟨g,0,none⟩ x).setCell ⟨g,1,none⟩ y).setCell ⟨g,2,none⟩ z) g t #[x,y,z]:=((h.set_ 0 x).set_ 1 y).set_ 2 z
theorem bl1 {w W:World}{g:Nat}(x:Value)(hg:w.heap.size<=g)(h:Below w.heap.size w W):Below w.heap.size w (W.setCell ⟨g,0,none⟩ x):=zag x hg h
theorem bl2 {w W:World}{g:Nat}(x y:Value)(hg:w.heap.size<=g)(h:Below w.heap.size w W):Below w.heap.size w ((W.setCell ⟨g,0,none⟩ x).setCell ⟨g,1,none⟩ y):=zag y hg (zag x hg h)
theorem bl3 {w W:World}{g:Nat}(x y z:Value)(hg:w.heap.size<=g)(h:Below w.heap.size w W):Below w.heap.size w (((W.setCell ⟨g,0,none⟩ x).setCell ⟨g,1,none⟩ y).setCell ⟨g,2,none⟩ z):=zag z hg (bl2 x y hg h)
theorem gn1 {w W:World}{x g:Nat}{t:TypeId}{A:oA9}{n c:Nat}{q:oA9}{r s:Nat}(h:zaf W x A n c)(k:Blk W g t #[.slice q r s])(hB:Below w.heap.size w W)(hg:w.heap.size<=g):zeU w x (.returned (.agg #[.slice A n c])) (W.setCell ⟨g,0,none⟩ (.slice A n c)):=
 ⟨_,_,_,rfl,zaA h k (NoU.s1 _ _ _) (zci _ _ _),bl1 _ hg hB⟩
theorem gi2 {w W:World}{z:Int}{g:Nat}{t:TypeId}{b:Bool}{A:oA9}{n c:Nat}{p:Bool}{q:oA9}{r s:Nat}(h:zaK W z b A n c)(k:Blk W g t #[.bool p,.slice q r s])(hB:Below w.heap.size w W)(hg:w.heap.size<=g):zbi w z (.returned (.agg #[.bool b,.slice A n c])) ((W.setCell ⟨g,0,none⟩ (.bool b)).setCell ⟨g,1,none⟩ (.slice A n c)):=
 ⟨_,_,_,_,rfl,zhc h k (NoU.s2 _ _ _ _) (zcM _ _ _ _),bl2 _ _ hg hB⟩
theorem gq3 {w W:World}{r:Rat}{g:Nat}{t:TypeId}{b:Bool}{A E:oA9}{n c k f:Nat}{p:Bool}{q q2:oA9}{r1 s r2 s2:Nat}(h:zak W r b A n c E k f)(kd:Blk W g t #[.bool p,.slice q r1 s,.slice q2 r2 s2])(hB:Below w.heap.size w W)(hg:w.heap.size<=g):zaP w r (.returned (.agg #[.bool b,.slice A n c,.slice E k f])) (((W.setCell ⟨g,0,none⟩ (.bool b)).setCell ⟨g,1,none⟩ (.slice A n c)).setCell ⟨g,2,none⟩ (.slice E k f)):=
 ⟨_,_,_,_,_,_,_,rfl,ziP h kd (NoU.s3 _ _ _ _ _ _ _) (off3 _ _ _ _ _),bl3 _ _ _ hg hB⟩
theorem gb3 {w W:World}{r:Rat}(u:Bool){g:Nat}{t:TypeId}{b:Bool}{A E:oA9}{n c k f:Nat}{p:Bool}{q q2:oA9}{r1 s r2 s2:Nat}(h:zak W r b A n c E k f)(kd:Blk W g t #[.bool p,.slice q r1 s,.slice q2 r2 s2])(hB:Below w.heap.size w W)(hg:w.heap.size<=g):zcb w r u (.returned (.tuple #[.agg #[.bool b,.slice A n c,.slice E k f],.bool u])) (((W.setCell ⟨g,0,none⟩ (.bool b)).setCell ⟨g,1,none⟩ (.slice A n c)).setCell ⟨g,2,none⟩ (.slice E k f)):=
 ⟨_,_,_,_,_,_,_,rfl,ziP h kd (NoU.s3 _ _ _ _ _ _ _) (off3 _ _ _ _ _),bl3 _ _ _ hg hB⟩
section
variable {P:Program}{ops:Array Oper}{Q:Exit->Act->World->Prop}{S:World->Prop}{fuel:Nat}{l:Array Bool}{a:Act}{w:World}
theorem rgB {id:Nat}(h:Below w.heap.size w w.drew->wpAnyH P .any ops (NoPanic Q) (λw'=>Below w.heap.size w w') ops.size (Array.replicate ops.size false) a w.drew)(hm:P.follows Departure.mixedOrders=true:=by kernel_rfl):Code.wp P (.region id ops true) Q a w:=
 wp_region_noPanic (wp_region_held_drew (S:=λw'=>Below w.heap.size w w') hm (Below.refl _ w).drew h)
theorem tl (i:Nat){cl:List (Addr×Value)}(hc:∀w,S w->Cs w cl){o:Oper}{v:Value}{a':Act}(hn:wpAnyH P .any ops (NoPanic Q) S fuel (l.setIfInBounds i true) a' w)(h1:ops[i]?=some o:=by simp only [List.getElem?_toArray,List.getElem?_cons_succ,List.getElem?_cons_zero];rfl)(h2:Region.noSelect ops=true:=by kernel_rfl)(h3:Region.free .any ops l i=true:=by kernel_rfl)(h4:(Region.ready .any ops l).contains i=true:=by kernel_rfl)(h5:Region.wanted o (yielded ops a.tmps)=true:=by rfl)(h6:∀w,Cs w cl->Sem.run P (execOp a.eval o) w=Result.ok (Next.value v) w:=by((intro w b;(try dsimp only [Cs] at b);go_simp);(try with_reducible rfl)))(hS:S w:=by with_reducible assumption)(ha:a.put o.dst v=a':=by(simp only [sb9];try rfl)):wpAnyH P .any ops (NoPanic Q) S (fuel+1) l a w:=
 wpAnyH_take h1 h2 h3 h4 (λ_ _ _ h=>h) (Or.inl ⟨h5,λw hs=>h6 w (hc w hs)⟩) hS (ha▸hn)
end
theorem szw {K B x n c:Nat}{A:oA9}{w:World}(h:Hid (Sz K x))(k:zaf w x A n c)(e:K<=B:=by omega):n<=B:=Nat.le_trans (h.out.words k) e
theorem szi {K B n c:Nat}{z:Int}{b:Bool}{A:oA9}{w:World}(h:Hid (Sz K z.natAbs))(k:zaK w z b A n c)(e:K<=B:=by omega):n<=B:=Nat.le_trans (h.out.words k.words) e
theorem szq {K n k c f:Nat}{r:Rat}{b:Bool}{A E:oA9}{w:World}(h:Hid (SzQ K r))(q:zak w r b A n c E k f)(e:K<=67108864:=by omega):zaT n k:=SzQ.fit h.out q e
set_option maxRecDepth 100000
theorem zhm (x y:Nat)(A D:oA9)(n m c d:Nat)(w:World)(hA:zaf w x A n c)(hD:zaf w y D m d)(hn:n<=274877906944)(hm:m<=274877906944):
  Calls prog 171 #[.agg #[.slice A n c],.agg #[.slice D m d]] w (zeV w (x / y) (decide (y≠0))):=by
 by_cases hy:y=0
 ·have e:x / y=0:=by rw [hy,Nat.div_zero]
  have e2:decide (y≠0)=false:=by simp [hy]
  rw [e,e2];exact zfI 0 0 false A D n m c d w (λw' hb=>zfJ x y A D n m c d w' (hA.below hb) (hD.below hb) hy)
 ·have e2:decide (y≠0)=true:=by simp [hy]
  rw [e2];exact zfI (x / y) (x%y) true A D n m c d w (λw' hb=>zer x y A D n m c d w' (hA.below hb) (hD.below hb) om9 om9 hy)
theorem zoi (x y:Nat)(A D:oA9)(n m c d:Nat)(w:World)(hA:zaf w x A n c)(hD:zaf w y D m d)(hn:n<=1073741824)(hm:m<=1073741824)(hT:zam w):
  Calls prog 122 #[.agg #[.slice A n c],.agg #[.slice D m d]] w (zkV w (x / Nat.gcd x y) (y / Nat.gcd x y)):=by
 have HO:=up9 w (λw' hb=>gcd_of x y A D n m c d w' (hA.below hb) (hD.below hb) hn hm (hT.on hb));obtain⟨g,hg⟩:∃g,Nat.gcd x y=g:=⟨_,rfl⟩;have lg:(dg 18446744073709551616 g).length<=2147483648:=by
  rw [<-hg];rcases Nat.eq_zero_or_pos x with e|e
  ·rw [e,Nat.gcd_zero_left,hD.len];omega
  ·exact Nat.le_trans (zbr de9 (Nat.gcd_le_left y e)) (by rw [hA.len];omega)
 rw [hg] at HO⊢;have k:=up9 w (λw' hb A1 n1 c1 (h1:zaf w' g A1 n1 c1)=>zhm x g A A1 n n1 c c1 w' (hA.below hb) h1 om9 (by rw [<-h1.len];omega));have l:=up9 w (λw' hb A1 n1 c1 (h1:zaf w' g A1 n1 c1)=>zhm y g D A1 m n1 d c1 w' (hD.below hb) h1 om9 (by rw [<-h1.len];omega));obtain⟨X,hX⟩:∃g',x / g=g':=⟨_,rfl⟩;obtain⟨Y,hY⟩:∃g',y / g=g':=⟨_,rfl⟩;obtain⟨bb,a⟩:∃g':Bool,decide (g≠0)=g':=⟨_,rfl⟩;rw [hX,a] at k;rw [hY,a] at l;rw [hX,hY];clear hA hD hT hg lg hX hY a;go_enter func122,ntmps122;go_wp2_with fail;obtain⟨b1,b2,b3,b4,b5⟩:=zbs w 49 49 49 #[.slice A n c] #[.slice D m d] #[.slice none 0 0];obtain⟨W3,j⟩:∃W,((w.alloc (.cells #[.slice A n c] 49)).alloc (.cells #[.slice D m d] 49)).alloc (.cells #[.slice none 0 0] 49)=W:=⟨_,rfl⟩;rw [j] at b1 b2 b3 b4 b5⊢;have o:W3.heap.size=w.heap.size+1+1+1:=by rw [<-j];simp
 have kA:=b2.one.alloc (.cells #[.slice none 0 0] 49);have kD:=b3.one.alloc (.cells #[.slice none 0 0] 49);have kx:=b4.one.alloc (.cells #[.slice none 0 0] 49);have ky:=zck.new W3 49 (.slice none 0 0);rw [o] at ky;have hB:=b1.alloc b1.size (.cells #[.slice none 0 0] 49);clear b1 b2 b3 b4 b5 j o;generalize W3.alloc (.cells #[.slice none 0 0] 49)=W4 at*;obtain⟨p,hp⟩:∃p,w.heap.size=p:=⟨_,rfl⟩;have hpw:w.heap.size<=p:=om9;refine(HO.out _ hB).mono ?_;rw [hp] at kA kD kx ky⊢;clear hp;rintro e w1 ⟨A1,n1,c1,rfl,b,hb⟩;obtain⟨d1,d2,d3⟩:=zaD w1 49 #[.slice A1 n1 c1];have a:=zac hb d1;have kA:=kA.keep a;have kD:=kD.keep a;have kx:=kx.keep a;have ky:=ky.keep a;have hB:=zac hB a;have b:=b.below d1;have kg:=d2.one;clear d1 d2 d3 hb a;have e1:=kA.cell;have e2:=kg.cell;go_wp2_with fail;generalize u:w1.alloc (.cells #[.slice A1 n1 c1] 49)=W5 at*;generalize w1.heap.size=z1 at*;clear u;refine(k.out _ hB A1 n1 c1 b).mono ?_;clear e1 e2;rintro e w2 ⟨A2,n2,c2,rfl,f,hb⟩;have hz2:=(ky.keep hb).lt;obtain⟨d1,d2,d3⟩:=zaD w2 49 #[.slice A2 n2 c2];have a:=zac hb d1;have kD:=kD.keep a;have kx:=kx.keep a;have ky:=ky.keep a;have kg:=kg.keep a;have hB:=zac hB a;have b:=b.below a;have f:=f.below d1;have k7:=d2.one;clear d1 d2 d3 hb a kA;have e1:=kD.cell;have e2:=kg.cell;go_wp2_with fail;generalize z:w2.alloc (.cells #[.slice A2 n2 c2] 49)=W6 at*;generalize w2.heap.size=z2 at*;clear z;refine(l.out _ hB A1 n1 c1 b).mono ?_;clear e1 e2;rintro e w3 ⟨A3,n3,c3,rfl,i,hb⟩;have hz3:=(ky.keep hb).lt;obtain⟨d1,d2,d3⟩:=zaD w3 49 #[.slice A3 n3 c3];have a:=zac hb d1;have kx:=kx.keep a;have ky:=ky.keep a;have k7:=k7.keep a;have hB:=zac hB a;have f:=f.below a;have i:=i.below d1;have k9:=d2.one;clear d1 d2 d3 hb a kD kg b;go_wp2_with fail;generalize B:w3.alloc (.cells #[.slice A3 n3 c3] 49)=W7 at*;generalize w3.heap.size=z3 at*;clear B;have q7:W7.cell? ⟨z2,0,none⟩=some (.slice A2 n2 c2):=k7.cell;have q9:W7.cell? ⟨z3,0,none⟩=some (.slice A3 n3 c3):=k9.cell;have qx:W7.cell? ⟨p+1+1,0,none⟩=some (.slice none 0 0):=kx.cell;have qy:W7.cell? ⟨p+1+1+1,0,none⟩=some (.slice none 0 0):=ky.cell;have fx:W7.frozen? ⟨p+1+1,0,none⟩=false:=kx.frozen;have fy:W7.frozen? ⟨p+1+1+1,0,none⟩=false:=ky.frozen;have q9':=zai (q:=⟨p+1+1,0,none⟩) (.slice A2 n2 c2) (by show z3≠p+1+1;omega) q9;have t:=kx.set_ (.slice A2 n2 c2);have h:=ky.far (p:=⟨p+1+1,0,none⟩) (by show p+1+1+1≠p+1+1;omega) (.slice A2 n2 c2);have qy':=h.cell;have fy':=h.frozen;have r:=zat f kx (.slice A2 n2 c2);have s:=zat i kx (.slice A2 n2 c2);have rx:=(t.far (p:=⟨p+1+1+1,0,none⟩) (by show p+1+1≠p+1+1+1;omega) (.slice A3 n3 c3)).cell;have ry:=(h.set_ (.slice A3 n3 c3)).cell;have HE : Hid (zkV w X Y (.returned (.tuple #[.agg #[.slice A2 n2 c2],.agg #[.slice A3 n3 c3]])) ((W7.setCell ⟨p + 1 + 1,0,none⟩ (.slice A2 n2 c2)).setCell ⟨p + 1 + 1 + 1,0,none⟩ (.slice A3 n3 c3)).drew) :=
  ⟨_,_,_,_,_,_,rfl,zat r h _,zat s h _,(hB.setCell (p:=⟨p+1+1,0,none⟩) (by show w.heap.size<=p+1+1;omega) _).setCell (p:=⟨p+1+1+1,0,none⟩) (by show w.heap.size<=p+1+1+1;omega) _|>.drew⟩
 clear k7 k9 kx ky hB f i t h r s;go_region
 all_goals
  go_wp2
  refine bodyPost_ret (v:=.tuple #[.agg #[.slice A2 n2 c2],.agg #[.slice A3 n3 c3]]) (by simp [results,results122,go_sem,rx,ry]) rfl ?_
  exact HE.out
set_option linter.unusedSimpArgs false
theorem Sz.of_words {w:World}{x K n c:Nat}{A:oA9}(h:zaf w x A n c)(hn:n<=K):Sz K x:=by
 have h1:=zbh (b:=18446744073709551616) de9 x;rw [h.len] at h1;exact Nat.lt_of_lt_of_le h1 (Nat.pow_le_pow_right de9 hn)
theorem zct:GcdC where
 of x y A D n m c d w hA hD hn hm hT:=gcd_of x y A D n m c d w hA hD hn hm hT
 reduce x y A D n m c d w hA hD hn hm hT:=zoi x y A D n m c d w hA hD hn hm hT
theorem zaf.to8 {w:World}{x y:Nat}{A:oA9}{n c:Nat}(e:x=y)(h:zaf w x A n c):zaf w y A n c:=e▸h
theorem zaK.to8 {w:World}{x y:Int}{b:Bool}{A:oA9}{n c:Nat}(e:x=y)(h:zaK w x b A n c):zaK w y b A n c:=e▸h
theorem zkT (x:Nat)(A:oA9)(n c:Nat)(w:World)(h:zaf w x A n c)(hn:n<=1099511627776):
  Calls prog 150 #[.agg #[.slice A n c]] w λe w'=>∃(B:oA9) (m d:Nat),e=.returned (.slice B m d)/\zaf w' x B m d/\Below w.heap.size w w':=by
 refine(zdf x A n c w h hn).mono ?_;rintro e w' ⟨B,d,rfl,h1,h2,h3,h4⟩;exact⟨B,_,d,rfl,⟨h1,h2,h3.1⟩,h4⟩
theorem of_row (x:Nat)(A:oA9)(n c:Nat)(w:World)(h:zaf w x A n c)(hn:n<=1099511627776):
  Calls prog 153 #[.slice A n c] w λe w'=>∃(B:oA9) (m d:Nat),e=.returned (.agg #[.slice B m d])/\zaf w' x B m d/\Below w.heap.size w w':=by
 have k:=zdb A n c _ w h.1 (zcx de9 x) h.2.1 h.2.2 hn;rw [zde de9] at k;refine k.mono ?_;rintro e w' ⟨B,m,d,rfl,h1,h2,_⟩;exact⟨B,m,d,rfl,h1,h2⟩
theorem zpS {P:Program}{f:FuncId}{args:Array Value}{w:World}{z v:Int}(e:z=v)(h:Calls P f args w λe w'=>e=.returned (.tuple #[.int .u64 z,.bool true])/\Below w.heap.size w w'):Calls P f args w λe w'=>e=.returned (.tuple #[.int .u64 v,.bool true])/\Below w.heap.size w w':=by
 subst e;exact h
theorem zmj (x:Nat)(A:oA9)(n c:Nat)(w:World)(hA:zaf w x A n c)(hn:n<=1099511627776):Calls prog 155 #[.agg #[.slice A n c]] w (zcl w ((bitLen x:Nat):Int)):=zjh x A n c w hA hn
theorem zht {K K':Nat}{z:Int}{k:Nat}(h:Sz K z.natAbs)(h':Sz K' k):Sz (K+K') (z*((k:Nat):Int)).natAbs:=by
 rw [Int.natAbs_mul,Int.natAbs_natCast];exact h.mul h'
theorem zax {K q x:Nat}(h:Sz K q)(e:q=(if x=0 then 1 else x)/\x≠1):Sz K x:=h.of_le (by rw [e.1];split<;>omega)
theorem zaS {w:World}{r:Rat}{b:Bool}{A:oA9}{n c:Nat}{E:oA9}{k f K:Nat}(h:zak w r b A n c E k f)(q:zaT n k)(hK:67108864=K):SzQ K r:=by
 obtain⟨x,e,hx⟩:=h.2;have h1:Sz K r.num.natAbs:=Sz.of_words h.1.2 (by have:=q.1;omega);have h2:Sz K x:=Sz.of_words hx (by have:=q.2;omega);refine⟨h1,?_⟩;rw [e.1]
 split
 ·exact zdc om9
 ·exact h2
theorem zfk (w:World):zaf w 0 none 0 0:=by
 refine⟨⟨by rw [show dg 18446744073709551616 0=[] from by rw [dg];rfl];rfl,λh=>absurd h de9⟩,Nat.le_refl _,de9⟩
theorem zfK (w:World):zak w (0:Rat) false none 0 0 none 0 0:=⟨⟨rfl,zfk w⟩,⟨0,⟨rfl,de9⟩,zfk w⟩⟩
theorem zfT {w:World}{z:Int}{b:Bool}{A:oA9}{n c:Nat}(h:zaK w z b A n c):zak w (z:Rat) b A n c none 0 0:=⟨by rw [Rat.num_intCast];exact h,⟨0,⟨by rw [Rat.den_intCast];rfl,de9⟩,zfk w⟩⟩
theorem zqU {w:World}{r:Rat}{z:Int}{b:Bool}{A:oA9}{n c:Nat}{E:oA9}{k f:Nat}(hn:r.num=z)(hd:r.den=1)(h:zaK w z b A n c)(q:zaf w 0 E k f):zak w r b A n c E k f:=
 ⟨by rw [hn];exact h,⟨0,⟨by rw [hd];rfl,de9⟩,q⟩⟩
theorem zjt {w:World}{r:Rat}{z:Int}{y:Nat}{b:Bool}{A:oA9}{n c:Nat}{E:oA9}{k f:Nat}(hn:r.num=z)(hd:r.den=y)(hy:y≠1)(h:zaK w z b A n c)(q:zaf w y E k f):zak w r b A n c E k f:=
 ⟨by rw [hn];exact h,⟨y,⟨by rw [if_neg (λh0=>r.den_nz (by rw [hd,h0]))];exact hd,hy⟩,q⟩⟩
theorem zgI {q x:Nat}(e:q=(if x=0 then 1 else x)/\x≠1)(h:q=1):x=0:=by
 refine Decidable.byContradiction λh0=>?_;rw [if_neg h0] at e;omega
theorem zet {q x:Nat}(e:q=(if x=0 then 1 else x)/\x≠1)(h:q≠1):x≠0/\x=q:=by
 have h0:x≠0:=λh0=>h (by rw [e.1,if_pos h0]);refine⟨h0,?_⟩;have:=e.1;rw [if_neg h0] at this;exact this.symm
theorem zrc (z:Int):zbc (decide (z<0)) z.natAbs=z:=by
 unfold zbc;by_cases h:z<0
 ·rw [decide_eq_true h,if_pos rfl];omega
 ·rw [decide_eq_false h,if_neg de9];omega
theorem zqu {w:World}{x:Nat}{A:oA9}{n c:Nat}(h:zaf w x A n c)(hn:n<=1):x<18446744073709551616:=zjk h.len hn
theorem len_one {w:World}{x:Nat}{A:oA9}{n c:Nat}(h:zaf w x A n c)(hx:x=1):n<=1:=by
 have h1:Sz 1 x:=by rw [hx];exact zdc de9
 exact h1.words h
theorem zoD (p d:Int)(hd:d≠0):(Rat.divInt p d).num=zbc (decide (p<0) !=decide (d<0)) (p.natAbs / Nat.gcd p.natAbs d.natAbs)/\(Rat.divInt p d).den=d.natAbs / Nat.gcd p.natAbs d.natAbs:=by
 refine⟨?_,zmS p d hd⟩;have h1:=zmT p d hd;have h2:=zkq p d hd;rw [<-h1];generalize (Rat.divInt p d).num=z at*;unfold zbc;by_cases hp:p<0
 ·by_cases hq:d<0
  ·rw [decide_eq_true hp,decide_eq_true hq];simp;omega
  ·rw [decide_eq_true hp,decide_eq_false hq];simp;omega
 ·by_cases hq:d<0
  ·rw [decide_eq_false hp,decide_eq_true hq];simp;by_cases h0:p=0
   ·subst h0;simp at h1;omega
   ·omega
  ·rw [decide_eq_false hp,decide_eq_false hq];simp;omega
