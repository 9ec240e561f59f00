/- What this claim leans on. -/
import Derived.Test.YtghpdeciaaagnaaGreatDoorQBunF
namespace Go.Proofs.YtghpdeciaaagnaaGreatDoor
open Go Go.RowKit Go.Proofs.Tryz
set_option maxHeartbeats 16000000
set_option linter.unusedVariables false
def DenIn (w:World)(q:Nat)(A:oA9)(n c:Nat):Prop:=∃x,(q=(if x=0 then 1 else x)/\x≠1)/\zad w x A n c
theorem DenIn.below {w w':World}{q:Nat}{A:oA9}{n c:Nat}(h:DenIn w q A n c)(hb:Below w.heap.size w w'):DenIn w' q A n c:=by
 obtain⟨x,e,h1⟩:=h;exact⟨x,e,h1.below hb⟩
def zaf (w:World)(r:Rat)(b:Bool)(A:oA9)(n c:Nat)(E:oA9)(k f:Nat):Prop:=zaN w r.num b A n c/\DenIn w r.den E k f
theorem zaf.below {w w':World}{r:Rat}{b:Bool}{A:oA9}{n c:Nat}{E:oA9}{k f:Nat}(h:zaf w r b A n c E k f)(hb:Below w.heap.size w w'):zaf w' r b A n c E k f:=⟨h.1.below hb,h.2.below hb⟩
theorem zaf.to {w:World}{r s:Rat}{b:Bool}{A:oA9}{n c:Nat}{E:oA9}{k f:Nat}(e:r=s)(h:zaf w r b A n c E k f):zaf w s b A n c E k f:=e▸h
def zaE (w:World)(r:Rat)(e:Ending)(w':World):Prop:=∃(b:Bool) (A:oA9) (n c:Nat) (E:oA9) (k f:Nat),e=.returned (.agg #[.bool b,.slice A n c,.slice E k f])/\zaf w' r b A n c E k f/\Below w.heap.size w w'
def zbX (w:World)(r:Rat)(t:Bool)(e:Ending)(w':World):Prop:=∃(b:Bool) (A:oA9) (n c:Nat) (E:oA9) (k f:Nat),e=.returned (.tuple #[.agg #[.bool b,.slice A n c,.slice E k f],.bool t])/\zaf w' r b A n c E k f/\Below w.heap.size w w'
def zaU (n k:Nat):Prop:=n<=67108864/\k<=67108864
structure RatG0 (T:World->Prop):Prop where
 mul:∀(r s:Rat) (b b':Bool) (A A':oA9) (n n' c c':Nat) (E E':oA9) (k k' f f':Nat) (w:World),T w->zaf w r b A n c E k f->zaf w s b' A' n' c' E' k' f'->zaU n k->zaU n' k'->Calls prog 38 #[.agg #[.bool b,.slice A n c,.slice E k f],.agg #[.bool b',.slice A' n' c',.slice E' k' f']] w (zaE w (r*s))
 div:∀(r s:Rat) (b b':Bool) (A A':oA9) (n n' c c':Nat) (E E':oA9) (k k' f f':Nat) (w:World),T w->zaf w r b A n c E k f->zaf w s b' A' n' c' E' k' f'->zaU n k->zaU n' k'->s≠0->Calls prog 53 #[.agg #[.bool b,.slice A n c,.slice E k f],.agg #[.bool b',.slice A' n' c',.slice E' k' f']] w (zbX w (r / s) true)
 divNo:∀(r s:Rat) (b b':Bool) (A A':oA9) (n n' c c':Nat) (E E':oA9) (k k' f f':Nat) (w:World),T w->zaf w r b A n c E k f->zaf w s b' A' n' c' E' k' f'->zaU n k->zaU n' k'->s=0->Calls prog 53 #[.agg #[.bool b,.slice A n c,.slice E k f],.agg #[.bool b',.slice A' n' c',.slice E' k' f']] w (zbX w 0 false)
structure RatG1 (T:World->Prop):Prop where
structure RatG2 (T:World->Prop):Prop where
 int:∀(z:Int) (w:World),T w-> -9223372036854775808<=z->z<=9223372036854775807->Calls prog 56 #[.int .i64 z] w (zaE w (z:Rat))
 whole:∀(z:Int) (b:Bool) (A:oA9) (n c:Nat) (w:World),T w->zaN w z b A n c->n<=67108864->Calls prog 179 #[.agg #[.bool b,.slice A n c]] w (zaE w (z:Rat))
structure RatC (T:World->Prop)(M:Nat->Prop):Prop where
 g0:M 0->RatG0 T
 g1:M 1->RatG1 T
 g2:M 2->RatG2 T
 new:∀(p q:Int) (b b':Bool) (A D:oA9) (n m c d:Nat) (w:World),T w->zaN w p b A n c->zaN w q b' D m d->n<=67108864->m<=67108864->q≠0->Calls prog 175 #[.agg #[.bool b,.slice A n c],.agg #[.bool b',.slice D m d]] w (zbX w (Rat.divInt p q) true)
 newNo:∀(p q:Int) (b b':Bool) (A D:oA9) (n m c d:Nat) (w:World),T w->zaN w p b A n c->zaN w q b' D m d->n<=67108864->m<=67108864->q=0->Calls prog 175 #[.agg #[.bool b,.slice A n c],.agg #[.bool b',.slice D m d]] w (zbX w 0 false)
 of:∀(p q:Int) (w:World),T w-> -9223372036854775808<=p->p<=9223372036854775807-> -9223372036854775808<=q->q<=9223372036854775807->q≠0->Calls prog 120 #[.int .i64 p,.int .i64 q] w (zbX w (Rat.divInt p q) true)
 ofNo:∀(p q:Int) (w:World),T w-> -9223372036854775808<=p->p<=9223372036854775807->q=0->Calls prog 120 #[.int .i64 p,.int .i64 q] w (zbX w 0 false)
 num:∀(r:Rat) (b:Bool) (A:oA9) (n c:Nat) (E:oA9) (k f:Nat) (w:World),T w->zaf w r b A n c E k f->zaU n k->Calls prog 76 #[.agg #[.bool b,.slice A n c,.slice E k f]] w (zbh w r.num)
 den:∀(r:Rat) (b:Bool) (A:oA9) (n c:Nat) (E:oA9) (k f:Nat) (w:World),T w->zaf w r b A n c E k f->zaU n k->Calls prog 78 #[.agg #[.bool b,.slice A n c,.slice E k f]] w (zfc w r.den)
 sign:∀(r:Rat) (b:Bool) (A:oA9) (n c:Nat) (E:oA9) (k f:Nat) (w:World),T w->zaf w r b A n c E k f->zaU n k->Calls prog 66 #[.agg #[.bool b,.slice A n c,.slice E k f]] w (zcL w (sgnQ r))
 zero:∀(r:Rat) (b:Bool) (A:oA9) (n c:Nat) (E:oA9) (k f:Nat) (w:World),T w->zaf w r b A n c E k f->zaU n k->Calls prog 17 #[.agg #[.bool b,.slice A n c,.slice E k f]] w λe w'=>e=.returned (.bool (decide (r=0)))/\Below w.heap.size w w'
 isInt:∀(r:Rat) (b:Bool) (A:oA9) (n c:Nat) (E:oA9) (k f:Nat) (w:World),T w->zaf w r b A n c E k f->zaU n k->Calls prog 79 #[.agg #[.bool b,.slice A n c,.slice E k f]] w λe w'=>e=.returned (.bool (decide (r.den=1)))/\Below w.heap.size w w'
 bits:∀(r:Rat) (b:Bool) (A:oA9) (n c:Nat) (E:oA9) (k f:Nat) (w:World),T w->zaf w r b A n c E k f->zaU n k->Calls prog 80 #[.agg #[.bool b,.slice A n c,.slice E k f]] w (zcL w ((bitLen r.num.natAbs+bitLen r.den:Nat):Int))
 neg:∀(r:Rat) (b:Bool) (A:oA9) (n c:Nat) (E:oA9) (k f:Nat) (w:World),T w->zaf w r b A n c E k f->zaU n k->Calls prog 55 #[.agg #[.bool b,.slice A n c,.slice E k f]] w (zaE w (-r))
 inv:∀(r:Rat) (b:Bool) (A:oA9) (n c:Nat) (E:oA9) (k f:Nat) (w:World),T w->zaf w r b A n c E k f->zaU n k->r≠0->Calls prog 123 #[.agg #[.bool b,.slice A n c,.slice E k f]] w (zbX w r⁻¹ true)
 invNo:∀(r:Rat) (b:Bool) (A:oA9) (n c:Nat) (E:oA9) (k f:Nat) (w:World),T w->zaf w r b A n c E k f->zaU n k->r=0->Calls prog 123 #[.agg #[.bool b,.slice A n c,.slice E k f]] w (zbX w 0 false)
 add:∀(r s:Rat) (b b':Bool) (A A':oA9) (n n' c c':Nat) (E E':oA9) (k k' f f':Nat) (w:World),T w->zaf w r b A n c E k f->zaf w s b' A' n' c' E' k' f'->zaU n k->zaU n' k'->Calls prog 126 #[.agg #[.bool b,.slice A n c,.slice E k f],.agg #[.bool b',.slice A' n' c',.slice E' k' f']] w (zaE w (r+s))
 sub:∀(r s:Rat) (b b':Bool) (A A':oA9) (n n' c c':Nat) (E E':oA9) (k k' f f':Nat) (w:World),T w->zaf w r b A n c E k f->zaf w s b' A' n' c' E' k' f'->zaU n k->zaU n' k'->Calls prog 171 #[.agg #[.bool b,.slice A n c,.slice E k f],.agg #[.bool b',.slice A' n' c',.slice E' k' f']] w (zaE w (r - s))
 cmp:∀(r s:Rat) (b b':Bool) (A A':oA9) (n n' c c':Nat) (E E':oA9) (k k' f f':Nat) (w:World),T w->zaf w r b A n c E k f->zaf w s b' A' n' c' E' k' f'->zaU n k->zaU n' k'->Calls prog 174 #[.agg #[.bool b,.slice A n c,.slice E k f],.agg #[.bool b',.slice A' n' c',.slice E' k' f']] w (zcL w (zgA r s))
 same:∀(r s:Rat) (b b':Bool) (A A':oA9) (n n' c c':Nat) (E E':oA9) (k k' f f':Nat) (w:World),T w->zaf w r b A n c E k f->zaf w s b' A' n' c' E' k' f'->zaU n k->zaU n' k'->Calls prog 37 #[.agg #[.bool b,.slice A n c,.slice E k f],.agg #[.bool b',.slice A' n' c',.slice E' k' f']] w λe w'=>e=.returned (.bool (decide (r=s)))/\Below w.heap.size w w'
def zbp (g:Nat)(w w':World):Prop:=w'.heap.size=w.heap.size/\∀p:Addr,p.block≠g->w'.cell? p=w.cell? p
theorem zbp.refl (g:Nat)(w:World):zbp g w w:=⟨rfl,λ_ _=>rfl⟩
theorem zbp.set_ {g:Nat}{w w':World}(h:zbp g w w')(j:Nat)(v:Value):zbp g w (w'.setCell ⟨g,j,none⟩ v):=
 ⟨by rw [<-h.1];simp,λp hp=>(World.cell?_setCell_other w' ⟨g,j,none⟩ p v (λe=>hp (by first|rw [e]|rw [<-e]))).trans (h.2 p hp)⟩
theorem zcm (w:World)(g:Nat)(v0:Value):zbp g w (w.setCell ⟨g,0,none⟩ v0):=(zbp.refl g w).set_ 0 v0
theorem ziB (w:World)(g:Nat)(v0 v1:Value):zbp g w ((w.setCell ⟨g,0,none⟩ v0).setCell ⟨g,1,none⟩ v1):=(zcm w g v0).set_ 1 v1
theorem zce (w:World)(g:Nat)(v0 v1 v2:Value):zbp g w (((w.setCell ⟨g,0,none⟩ v0).setCell ⟨g,1,none⟩ v1).setCell ⟨g,2,none⟩ v2):=(ziB w g v0 v1).set_ 2 v2
def NoU (cs:Array Value):Prop:=∀v ∈ cs.toList,∀k z,v≠.int k z
theorem NoU.s1 (q:oA9)(r s:Nat):NoU #[.slice q r s]:=by intro v hv k z e;simp at hv;subst hv;cases e
theorem NoU.s2 (p:Bool)(q:oA9)(r s:Nat):NoU #[.bool p,.slice q r s]:=by intro v hv k z e;simp at hv;rcases hv with rfl|rfl<;>cases e
theorem NoU.s3 (p:Bool)(q:oA9)(r s:Nat)(q2:oA9)(r2 s2:Nat):NoU #[.bool p,.slice q r s,.slice q2 r2 s2]:=by intro v hv k z e;simp at hv;rcases hv with rfl|rfl|rfl<;>cases e
theorem zcx:NoU #[.slice none 0 0]:=NoU.s1 _ _ _
theorem nou2:NoU #[.bool false,.slice none 0 0]:=NoU.s2 _ _ _ _
theorem zkO {w:World}{A:oA9}{n g:Nat}{k:IntKind}{l:List Nat}{t:TypeId}{cs:Array Value}(h:zaw w w.heap.size 1 A n (zaF k l))(hk:Blk w g t cs)(a:NoU cs):0<n->∀ad,A=some ad->ad.block≠g:=λhn ad e hg=>by
 have hl:=h.len_;obtain⟨ad',e',_,hc⟩:=h.2 hn;rw [e] at e';injection e' with e';subst e';have h0:=hc 0 (.int k (l.getD 0 0:Nat)) (zdc k _ 0 om9);have e0:ad.add 0=ad:=by unfold Addr.add;rw [if_pos rfl]
 rw [e0] at h0;obtain⟨bk,off,pr⟩:=ad;simp only at hg;subst hg;unfold Blk at hk;cases pr with
 |none=>
   rw [show w.cell? ⟨bk,off,none⟩=cs[off]? from cell_of_row w bk off _ t (0,0) hk,<-Array.getElem?_toList] at h0;exact a _ (List.mem_of_getElem? h0) _ _ rfl
 |some q=>simp [World.cell?,hk] at h0
theorem zrf {w w':World}{A:oA9}{n g:Nat}{k:IntKind}{l:List Nat}{t:TypeId}{cs:Array Value}(h:zaw w w.heap.size 1 A n (zaF k l))(hk:Blk w g t cs)(a:NoU cs)(ho:zbp g w w'):zaw w' w'.heap.size 1 A n (zaF k l):=by
 have b:=zkO h hk a;refine⟨h.1,λhn=>?_⟩;obtain⟨ad,e,hb,hc⟩:=h.2 hn;refine⟨ad,e,by rw [ho.1];exact hb,λj v hv=>?_⟩;rw [ho.2 (ad.add j) (by rw [zah];exact b hn ad e)];exact hc j v hv
theorem zay {w w':World}{x:Nat}{A:oA9}{n c g:Nat}{t:TypeId}{cs:Array Value}(h:zad w x A n c)(hk:Blk w g t cs)(a:NoU cs)(ho:zbp g w w'):zad w' x A n c:=⟨zrf h.1 hk a ho,h.2⟩
theorem zhm {w w':World}{z:Int}{b:Bool}{A:oA9}{n c g:Nat}{t:TypeId}{cs:Array Value}(h:zaN w z b A n c)(hk:Blk w g t cs)(a:NoU cs)(ho:zbp g w w'):zaN w' z b A n c:=⟨h.1,zay h.2 hk a ho⟩
theorem zbQ {w w':World}{r:Rat}{b:Bool}{A:oA9}{n c:Nat}{E:oA9}{k f:Nat}{g:Nat}{t:TypeId}{cs:Array Value}(h:zaf w r b A n c E k f)(hk:Blk w g t cs)(a:NoU cs)(ho:zbp g w w'):zaf w' r b A n c E k f:=by
 refine⟨zhm h.1 hk a ho,?_⟩;obtain⟨x,e,hx⟩:=h.2;exact⟨x,e,zay hx hk a ho⟩
def SzQ (K:Nat)(r:Rat):Prop:=LtQ (18446744073709551616^K) r
theorem SzQ.up {K K':Nat}{r:Rat}(h:SzQ K r)(hk:K<=K'):SzQ K' r:=LtQ.up h (Nat.pow_le_pow_right de9 hk)
theorem zjE (K K':Nat):2*(18446744073709551616^K*18446744073709551616^K')<=18446744073709551616^(K+K'+1):=by
 rw [Nat.pow_succ,Nat.pow_add,Nat.mul_comm];exact Nat.mul_le_mul_left _ de9
theorem SzQ.add {K K':Nat}{r s:Rat}(h:SzQ K r)(h':SzQ K' s):SzQ (K+K'+1) (r+s):=LtQ.up (LtQ.add h h') (zjE K K')
theorem SzQ.sub {K K':Nat}{r s:Rat}(h:SzQ K r)(h':SzQ K' s):SzQ (K+K'+1) (r - s):=LtQ.up (LtQ.sub h h') (zjE K K')
theorem SzQ.mul {K K':Nat}{r s:Rat}(h:SzQ K r)(h':SzQ K' s):SzQ (K+K') (r*s):=LtQ.up (LtQ.mul h h') (by rw [Nat.pow_add];exact Nat.le_refl _)
theorem SzQ.div {K K':Nat}{r s:Rat}(h:SzQ K r)(h':SzQ K' s):SzQ (K+K') (r / s):=LtQ.up (LtQ.div h h') (by rw [Nat.pow_add];exact Nat.le_refl _)
theorem SzQ.neg {K:Nat}{r:Rat}(h:SzQ K r):SzQ K (-r):=LtQ.neg h
theorem SzQ.inv {K:Nat}{r:Rat}(h:SzQ K r):SzQ K r⁻¹:=LtQ.inv h
theorem SzQ.abs {K:Nat}{r:Rat}(h:SzQ K r):SzQ K r.abs:=by
 unfold Rat.abs
 split
 ·exact h
 ·exact h.neg
theorem SzQ.min {K K':Nat}{r s:Rat}(h:SzQ K r)(h':SzQ K' s):SzQ (K+K') (minQ r s):=by
 unfold minQ
 split
 ·exact h.up om9
 ·exact h'.up om9
theorem SzQ.num {K:Nat}{r:Rat}(h:SzQ K r):Sz K r.num.natAbs:=h.1
theorem SzQ.den {K:Nat}{r:Rat}(h:SzQ K r):Sz K r.den:=h.2
theorem zfp {K:Nat}(h:0<K):1<18446744073709551616^K:=Nat.one_lt_pow om9 de9
theorem SzQ.whole {K:Nat}{z:Int}(h:Sz K z.natAbs)(hK:0<K):SzQ K (z:Rat):=LtQ.whole h (zfp hK)
theorem SzQ.made {K:Nat}{p q:Int}(h:Sz K p.natAbs)(h':Sz K q.natAbs)(hK:0<K):SzQ K (Rat.divInt p q):=LtQ.made h h' (zfp hK)
theorem SzQ.zero:SzQ 1 (0:Rat):=⟨de9,de9⟩
theorem SzQ.fit {K:Nat}{r:Rat}(h:SzQ K r){w:World}{b:Bool}{A:oA9}{n c:Nat}{E:oA9}{k f:Nat}(hr:zaf w r b A n c E k f)(hK:K<=67108864):zaU n k:=by
 refine⟨Nat.le_trans (h.num.words hr.1.2) (Nat.le_trans hK de9),?_⟩;obtain⟨x,⟨e,_⟩,hx⟩:=hr.2;have hd:Sz K x:=h.den.of_le (by rw [e];split<;>omega);exact Nat.le_trans (hd.words hx) (Nat.le_trans hK de9)
def zee (D:List Nat)(a0 a:Act):Prop:=a.defers=a0.defers/\a.tmps.size=a0.tmps.size/\∀j,j ∉ D->a.tmps.getD j undef=a0.tmps.getD j undef
theorem zee.refl (D:List Nat)(a:Act):zee D a a:=⟨rfl,rfl,λ_ _=>rfl⟩
theorem rd_ne {a:Act}{i j:Nat}(h:j≠i)(v:Value):(a.put (some i) v).tmps.getD j undef=a.tmps.getD j undef:=by
 simp only [Act.put,Array.getD_eq_getD_getElem?];rw [Array.getElem?_setIfInBounds_ne (Ne.symm h)]
theorem zbj {a:Act}{i:Nat}(h:i<a.tmps.size)(v:Value):(a.put (some i) v).tmps.getD i undef=v:=by
 simp only [Act.put,Array.getD_eq_getD_getElem?];rw [Array.getElem?_setIfInBounds_self_of_lt h];rfl
theorem zhu (a:Act)(i:Nat)(v:Value):(a.put (some i) v).tmps.size=a.tmps.size:=by simp [Act.put]
theorem zee.put {D:List Nat}{a0 a:Act}(h:zee D a0 a){i:Nat}(hi:i ∈ D)(v:Value):zee D a0 (a.put (some i) v):=
 ⟨h.1,by rw [zhu];exact h.2.1,λj hj=>(rd_ne (λe=>hj (by rw [e];exact hi)) v).trans (h.2.2 j hj)⟩
theorem zee.get {D:List Nat}{a0 a:Act}(h:zee D a0 a)(j:Nat)(hj:j ∉ D){v:Value}(hv:a0.tmps.getD j undef=v):a.tmps.getD j undef=v:=(h.2.2 j hj).trans hv
theorem zee.lt {D:List Nat}{a0 a:Act}(h:zee D a0 a){j:Nat}(hj:j<a0.tmps.size):j<a.tmps.size:=by rw [h.2.1];exact hj
theorem act_ext {a b:Act}(hd:a.defers=b.defers)(hs:a.tmps.size=b.tmps.size)(hg:∀j,a.tmps.getD j undef=b.tmps.getD j undef):a=b:=by
 obtain⟨at_,ad⟩:=a;obtain⟨bt,bd⟩:=b;simp only at hd hs hg;subst hd;congr 1;refine Array.ext hs λj h1 h2=>?_;have:=hg j;simp only [Array.getD_eq_getD_getElem?,Array.getElem?_eq_getElem h1,Array.getElem?_eq_getElem h2] at this;exact this
def zdU (vs:List (Nat×Value))(a:Act):Act:=vs.foldl (λa p=>a.put (some p.1) p.2) a
theorem zir (vs:List (Nat×Value))(a:Act):(zdU vs a).tmps.size=a.tmps.size/\(zdU vs a).defers=a.defers:=by
 unfold zdU
 induction vs generalizing a with
 |nil=>exact⟨rfl,rfl⟩
 |cons p t ih=>rw [List.foldl_cons];have:=ih (a.put (some p.1) p.2);exact⟨this.1.trans (zhu _ _ _),this.2⟩
theorem zoM (vs:List (Nat×Value))(a b:Act)(hs:b.tmps.size=a.tmps.size)(hv:∀p ∈ vs,a.tmps.getD p.1 undef=p.2):∀j,(zdU vs b).tmps.getD j undef=if j ∈ vs.map Prod.fst then a.tmps.getD j undef else b.tmps.getD j undef:=by
 intro j
 induction vs generalizing b with
 |nil=>rfl
 |cons p t ih=>
   show(zdU t (b.put (some p.1) p.2)).tmps.getD j undef=_;rw [ih (b.put (some p.1) p.2) (by rw [zhu];exact hs) (λq hq=>hv q (List.mem_cons_of_mem _ hq))];by_cases h1:j ∈ t.map Prod.fst
   ·rw [if_pos h1,if_pos (by rw [List.map_cons];exact List.mem_cons_of_mem _ h1)]
   ·rw [if_neg h1];by_cases h2:j=p.1
    ·rw [if_pos (by rw [List.map_cons,h2];exact List.mem_cons_self),h2,hv p List.mem_cons_self];by_cases h3:p.1<b.tmps.size
     ·exact zbj h3 _
     ·have h4:=hv p List.mem_cons_self;have h5:¬ p.1<a.tmps.size:=by rw [<-hs];exact h3
      simp only [Array.getD_eq_getD_getElem?] at h4⊢;rw [Array.getElem?_eq_none om9] at h4;rw [Array.getElem?_eq_none (by rw [zhu];omega)];exact h4
    ·rw [if_neg (by rw [List.map_cons];intro h;rcases List.mem_cons.1 h with h|h;exact h2 h;exact h1 h)];exact rd_ne h2 _
theorem zee.eq {D:List Nat}{a0 a:Act}(h:zee D a0 a)(vs:List (Nat×Value))(hD:vs.map Prod.fst=D)(hv:∀p ∈ vs,a.tmps.getD p.1 undef=p.2):a=zdU vs a0:=by
 subst hD;refine act_ext (h.1.trans (zir vs a0).2.symm) (h.2.1.trans (zir vs a0).1.symm) λj=>?_;rw [zoM vs a a0 h.2.1.symm hv j];by_cases h1:j ∈ vs.map Prod.fst
 ·rw [if_pos h1]
 ·rw [if_neg h1];exact h.2.2 j h1
section
variable {P:Program}{ops0:Array Oper}{Q:Exit->Act->World->Prop}{md:Region.Mode}{S:World->Prop}
theorem zcJ {J:Act->Array Bool->Act->World->Prop}{L:Array Bool}{a0:Act}{l0:Array Bool}{w0:World}{b:Nat}(hd:due l0=b)(h0:J a0 l0 a0 w0)
  (c:∀(f:Array Oper) (A0:Act) (Q':Exit->Act->World->Prop),f=ops0->A0.tmps.size=a0.tmps.size->(∀i d,A0.tmps.getD i d=a0.tmps.getD i d)->(∀l a w,J A0 l a w->Region.ready md f l=[]->l=L)/\∀l a w i,J A0 l a w->l≠L->i ∈ Region.ready md f l->wpOp P f Q' i (λa' w'=>S w'/\J A0 (l.setIfInBounds i true) a' w') a w)
  (g:∀a w,J a0 L a w->wpAnyH P md ops0 Q S (due L) L a w):wpAnyH P md ops0 Q S b l0 a0 w0:=
 zmc (c ops0 a0 Q rfl rfl (λ_ _=>rfl)).1 (c ops0 a0 Q rfl rfl (λ_ _=>rfl)).2 g b l0 a0 w0 hd h0
theorem wpOp_go {b:Array Oper}{i:Nat}{o:Oper}{K:Act->World->Prop}{a:Act}{w:World}(ho:b[i]?=some o)(hg:o.guard=none)
  (h:∀K':Act->World->Prop,Shut (∀a w,K a w->K' a w)->Oper.wp P o a w K' Q):wpOp P b Q i K a w:=
 wpOp_step ho λK' hK=>by
  rw [if_pos (by unfold Region.wanted;rw [hg])];exact h K' hK
theorem zny {o:Oper}{K:Act->World->Prop}{a:Act}{w w':World}{v:Value}(h:(execOp a.eval o).run P w=.ok (.value v) w')(hK:K (a.put o.dst v) w'):Oper.wp P o a w K Q:=by
 unfold Oper.wp;rw [h];exact hK
theorem zeZ {o:Oper}{K:Act->World->Prop}{a:Act}{w:World}{v:Value}{x:Nat}(ho:o.op=.move (.tmp x)\/o.op=.assign (.tmp x))(hx:a.tmps.getD x undef=v)(hK:K (a.put o.dst v) w):Oper.wp P o a w K Q:=by
 refine zny (v:=v) (w':=w) ?_ hK;unfold execOp;rcases ho with ho|ho<;>rw [ho]<;>simp only [Act.eval,hx]<;>rfl
theorem zbx {o:Oper}{K:Act->World->Prop}{a:Act}{w:World}{v:Value}{x k:Nat}{vs:Array Value}(ho:o.op=.extract (.tmp x) k)(hx:a.tmps.getD x undef=.tuple vs)(hk:vs[k]?=some v)(hK:K (a.put o.dst v) w):Oper.wp P o a w K Q:=by
 refine zny (v:=v) (w':=w) ?_ hK;unfold execOp;rw [ho];simp only [Act.eval,hx,Instr.extract,hk];rfl
end
def Cs (w:World):List (Addr×Value)->Prop
 |[]=>True
 |q::t=>w.cell? q.1=some q.2/\Cs w t
theorem csn {w:World}:Cs w []:=trivial
theorem csc {w:World}{p:Addr}{v:Value}{l:List (Addr×Value)}(h:w.cell? p=some v)(t:Cs w l):Cs w ((p,v)::l):=⟨h,t⟩
theorem Cs.below {w w':World}{l:List (Addr×Value)}(h:Cs w l)(hb:Below w.heap.size w w'):Cs w' l:=by
 induction l with
 |nil=>trivial
 |cons q t ih=>exact⟨zac hb h.1,ih h.2⟩
theorem Cs.drew {w:World}{l:List (Addr×Value)}(h:Cs w l):Cs w.drew l:=by
 induction l with
 |nil=>trivial
 |cons q t ih=>exact⟨h.1,ih h.2⟩
def OffL (g:Nat):List (Addr×Value)->Prop
 |[]=>True
 |q::t=>q.1.block≠g/\OffL g t
theorem Cs.far {w w':World}{g:Nat}{l:List (Addr×Value)}(h:Cs w l)(hf:zbp g w w')(hn:OffL g l):Cs w' l:=by
 induction l with
 |nil=>trivial
 |cons q t ih=>exact⟨(hf.2 q.1 hn.1).trans h.1,ih h.2 hn.2⟩
theorem cs2 {w:World}{g:Nat}{l:List (Addr×Value)}(x y:Value)(h:Cs w l)(hn:OffL g l:=by(simp only [OffL,and_true];try omega)):Cs ((w.setCell ⟨g,0,none⟩ x).setCell ⟨g,1,none⟩ y) l:=h.far (ziB w g x y) hn
theorem cs3 {w:World}{g:Nat}{l:List (Addr×Value)}(x y z:Value)(h:Cs w l)(hn:OffL g l:=by(simp only [OffL,and_true];try omega)):Cs (((w.setCell ⟨g,0,none⟩ x).setCell ⟨g,1,none⟩ y).setCell ⟨g,2,none⟩ z) l:=h.far (zce w g x y z) hn
theorem sb9:(∀(a:Act) (d:Nat) (v:Value),a.put (some d) v={tmps:=a.tmps.setIfInBounds d v,defers:=a.defers})/\(∀(a:Act) (v:Value),a.put none v=a)/\(∀(l:List Value) (i:Nat) (v:Value),l.toArray.setIfInBounds i v=(l.set i v).toArray)/\(∀(x:Value) (l:List Value) (v:Value),(x::l).set 0 v=v::l)/\(∀(x:Value) (l:List Value) (i:Nat) (v:Value),(x::l).set (i+1) v=x::l.set i v):=
 ⟨λ_ _ _=>rfl,λ_ _=>rfl,λ_ _ _=>List.setIfInBounds_toArray ..,λ_ _ _=>rfl,λ_ _ _ _=>rfl⟩
section
variable {P:Program}{ops:Array Oper}{Q:Exit->Act->World->Prop}{S:World->Prop}{fuel:Nat}{l:Array Bool}{a:Act}{w:World}
theorem rg {id:Nat}{cl:List (Addr×Value)}(h0:Cs w cl)(h:Cs w.drew cl->wpAnyH P .any ops (NoPanic Q) (λw'=>Cs w' cl) ops.size (Array.replicate ops.size false) a w.drew)(hm:P.follows Departure.mixedOrders=true:=by kernel_rfl):Code.wp P (.region id ops true) Q a w:=
 wp_region_noPanic (wp_region_held_drew (S:=λw'=>Cs w' cl) hm h0.drew h)
theorem tk (i:Nat){o:Oper}{v:Value}{a':Act}(hn:wpAnyH P .any ops (NoPanic Q) S fuel (l.setIfInBounds i true) a' w)(h1:ops[i]?=some o:=by simp only [List.getElem?_toArray,List.getElem?_cons_succ,List.getElem?_cons_zero];rfl)(h2:Region.noSelect ops=true:=by kernel_rfl)(h3:Region.free .any ops l i=true:=by kernel_rfl)(h4:(Region.ready .any ops l).contains i=true:=by kernel_rfl)(h5:Region.wanted o (yielded ops a.tmps)=true:=by rfl)(h6:∀w,S w->Sem.run P (execOp a.eval o) w=Result.ok (Next.value v) w:=by((intro w b;(try dsimp only [Cs] at b);go_simp);(try with_reducible rfl)))(hS:S w:=by with_reducible assumption)(ha:a.put o.dst v=a':=by(simp only [sb9];try rfl)):wpAnyH P .any ops (NoPanic Q) S (fuel+1) l a w:=
 wpAnyH_take h1 h2 h3 h4 (λ_ _ _ h=>h) (Or.inl ⟨h5,h6⟩) hS (ha▸hn)
theorem rc (i:Nat){o:Oper}(hk:∀K':Act->World->Prop,Shut (∀(a:Act) (w:World),S w->(S w->wpAnyH P .any ops (NoPanic Q) S fuel (l.setIfInBounds i true) a w)->K' a w)->Oper.wp P o a w K' (NoPanic Q))(h1:ops[i]?=some o:=by simp only [List.getElem?_toArray,List.getElem?_cons_succ,List.getElem?_cons_zero];rfl)(h2:Region.ready .any ops l=[i]:=by kernel_rfl)(h3:Region.wanted o (yielded ops a.tmps)=true:=by rfl):wpAnyH P .any ops (NoPanic Q) S (fuel+1) l a w:=
 wpAnyH_ready h2 si9 (AllReadyH.cons h1 (λK' hK=>by rw [if_pos h3];exact hk K' hK) AllReadyH.nil)
theorem rdn (h:Q .normal a w)(hr:Region.ready .any ops l=[]:=by kernel_rfl):wpAnyH P .any ops (NoPanic Q) S fuel l a w:=wpAnyH_done hr (NoPanic.normal h) fuel
variable {ops0:Array Oper}{md:Region.Mode}{i:Nat}
theorem rdp (d k:Nat){o:Oper}{e:Edge}(hi:i ∈ Region.ready md ops l)(hO:ops=ops0)(ho:ops0[i]?=some o:=by simp only [List.getElem?_toArray,List.getElem?_cons_succ,List.getElem?_cons_zero];rfl)(he:o.after[k]?=some e:=by rfl)(hb:Region.binds md e=true:=by rfl)(hd:e.on=d:=by rfl):l.getD d false=true:=by
 subst hO;subst hd;exact zrg hi ho he hb
theorem als (i:Nat){o:Oper}(h:Region.ready md ops l=[])(hO:ops=ops0)(ho:ops0[i]?=some o:=by simp only [List.getElem?_toArray,List.getElem?_cons_succ,List.getElem?_cons_zero];rfl)(hr:(o.after.toList.all λe=> !Region.binds md e||l.getD e.on false)=true:=by rfl):l.getD i true=true:=by
 subst hO;exact znR h ho hr
theorem gdl (i:Nat){L l:Array Bool}(h:L=l):l.getD i false=L.getD i false:=by rw [h]
theorem Gd.off {b:Bool}(h:Gd b (false=true)):b=false:=by
 cases b
 ·rfl
 ·exact absurd (h rfl) de9
theorem wog {o:Oper}{K:Act->World->Prop}{Q:Exit->Act->World->Prop}(hO:ops=ops0)(h:∀K':Act->World->Prop,Shut (∀a w,K a w->K' a w)->Oper.wp P o a w K' Q)(ho:ops0[i]?=some o:=by simp only [List.getElem?_toArray,List.getElem?_cons_succ,List.getElem?_cons_zero];rfl)(hg:o.guard=none:=by rfl):wpOp P ops Q i K a w:=by
 subst hO;exact wpOp_go ho hg h
theorem kq0 {f:Bool}{a:Act}{x i:Nat}{u v:Value}(h:Gd f (a.tmps.getD x undef=u))(hn:x≠i:=by decide):Gd f ((a.put (some i) v).tmps.getD x undef=u):=h.mono λh=>(rd_ne hn _).trans h
theorem kq {f:Bool}{a:Act}{x i:Nat}{u v:Value}{p q:Prop}(h:Gd f (a.tmps.getD x undef=u/\p))(g:p->q)(hn:x≠i:=by decide):Gd f ((a.put (some i) v).tmps.getD x undef=u/\q):=h.mono λh=>⟨(rd_ne hn _).trans h.1,g h.2⟩
end
theorem Blk.c1 {w:World}{g:Nat}{t:TypeId}{x:Value}(h:Blk w g t #[x]):w.cell? ⟨g,0,none⟩=some x:=h.cell 0
theorem Blk.c2 {w:World}{g:Nat}{t:TypeId}{x y:Value}(h:Blk w g t #[x,y]):w.cell? ⟨g,0,none⟩=some x/\w.cell? ⟨g,1,none⟩=some y:=⟨h.cell 0,h.cell 1⟩
theorem Blk.c3 {w:World}{g:Nat}{t:TypeId}{x y z:Value}(h:Blk w g t #[x,y,z]):w.cell? ⟨g,0,none⟩=some x/\w.cell? ⟨g,1,none⟩=some y/\w.cell? ⟨g,2,none⟩=some z:=⟨h.cell 0,h.cell 1,h.cell 2⟩
theorem st1 {w:World}{g:Nat}{t:TypeId}{a:Value}(h:Blk w g t #[a]):w.cell? ⟨g,0,none⟩=some a/\w.frozen? ⟨g,0,none⟩=false:=⟨h.cell 0,h.frozen 0⟩
theorem st2 {w:World}{g:Nat}{t:TypeId}{a b:Value}(h:Blk w g t #[a,b])(x:Value):w.cell? ⟨g,0,none⟩=some a/\w.frozen? ⟨g,0,none⟩=false/\(w.setCell ⟨g,0,none⟩ x).cell? ⟨g,1,none⟩=some b/\(w.setCell ⟨g,0,none⟩ x).frozen? ⟨g,1,none⟩=false:=⟨h.cell 0,h.frozen 0,(h.set_ 0 x).cell 1,(h.set_ 0 x).frozen 1⟩
theorem st3 {w:World}{g:Nat}{t:TypeId}{a b c:Value}(h:Blk w g t #[a,b,c])(x y:Value):w.cell? ⟨g,0,none⟩=some a/\w.frozen? ⟨g,0,none⟩=false/\(w.setCell ⟨g,0,none⟩ x).cell? ⟨g,1,none⟩=some b/\(w.setCell ⟨g,0,none⟩ x).frozen? ⟨g,1,none⟩=false/\((w.setCell ⟨g,0,none⟩ x).setCell ⟨g,1,none⟩ y).cell? ⟨g,2,none⟩=some c/\((w.setCell ⟨g,0,none⟩ x).setCell ⟨g,1,none⟩ y).frozen? ⟨g,2,none⟩=false:=
 ⟨h.cell 0,h.frozen 0,(h.set_ 0 x).cell 1,(h.set_ 0 x).frozen 1,((h.set_ 0 x).set_ 1 y).cell 2,((h.set_ 0 x).set_ 1 y).frozen 2⟩
theorem sn1 {w:World}{g:Nat}{t:TypeId}{a:Value}(h:Blk w g t #[a])(x:Value):Blk (w.setCell ⟨g,0,none⟩ x) g t #[x]:=h.set_ 0 x
theorem sn2 {w:World}{g:Nat}{t:TypeId}{a b:Value}(h:Blk w g t #[a,b])(x y:Value):Blk ((w.setCell ⟨g,0,none⟩ x).setCell ⟨g,1,none⟩ y) g t #[x,y]:=(h.set_ 0 x).set_ 1 y
theorem sn3 {w:World}{g:Nat}{t:TypeId}{a b c:Value}(h:Blk w g t #[a,b,c])(x y z:Value):Blk (((w.setCell ⟨g,0,none⟩ x).setCell ⟨g,1,none⟩ y).setCell ⟨g,2,none⟩ z) g t #[x,y,z]:=((h.set_ 0 x).set_ 1 y).set_ 2 z
theorem bl1 {w W:World}{g:Nat}(x:Value)(hg:w.heap.size<=g)(h:Below w.heap.size w W):Below w.heap.size w (W.setCell ⟨g,0,none⟩ x):=zae x hg h
theorem bl2 {w W:World}{g:Nat}(x y:Value)(hg:w.heap.size<=g)(h:Below w.heap.size w W):Below w.heap.size w ((W.setCell ⟨g,0,none⟩ x).setCell ⟨g,1,none⟩ y):=zae y hg (zae x hg h)
theorem bl3 {w W:World}{g:Nat}(x y z:Value)(hg:w.heap.size<=g)(h:Below w.heap.size w W):Below w.heap.size w (((W.setCell ⟨g,0,none⟩ x).setCell ⟨g,1,none⟩ y).setCell ⟨g,2,none⟩ z):=zae z hg (bl2 x y hg h)
theorem gn1 {w W:World}{x g:Nat}{t:TypeId}{A:oA9}{n c:Nat}{q:oA9}{r s:Nat}(h:zad W x A n c)(k:Blk W g t #[.slice q r s])(hB:Below w.heap.size w W)(hg:w.heap.size<=g):zfc w x (.returned (.agg #[.slice A n c])) (W.setCell ⟨g,0,none⟩ (.slice A n c)):=
 ⟨_,_,_,rfl,zay h k (NoU.s1 _ _ _) (zcm _ _ _),bl1 _ hg hB⟩
theorem gi2 {w W:World}{z:Int}{g:Nat}{t:TypeId}{b:Bool}{A:oA9}{n c:Nat}{p:Bool}{q:oA9}{r s:Nat}(h:zaN W z b A n c)(k:Blk W g t #[.bool p,.slice q r s])(hB:Below w.heap.size w W)(hg:w.heap.size<=g):zbh w z (.returned (.agg #[.bool b,.slice A n c])) ((W.setCell ⟨g,0,none⟩ (.bool b)).setCell ⟨g,1,none⟩ (.slice A n c)):=
 ⟨_,_,_,_,rfl,zhm h k (NoU.s2 _ _ _ _) (ziB _ _ _ _),bl2 _ _ hg hB⟩
theorem gq3 {w W:World}{r:Rat}{g:Nat}{t:TypeId}{b:Bool}{A E:oA9}{n c k f:Nat}{p:Bool}{q q2:oA9}{r1 s r2 s2:Nat}(h:zaf W r b A n c E k f)(kd:Blk W g t #[.bool p,.slice q r1 s,.slice q2 r2 s2])(hB:Below w.heap.size w W)(hg:w.heap.size<=g):zaE w r (.returned (.agg #[.bool b,.slice A n c,.slice E k f])) (((W.setCell ⟨g,0,none⟩ (.bool b)).setCell ⟨g,1,none⟩ (.slice A n c)).setCell ⟨g,2,none⟩ (.slice E k f)):=
 ⟨_,_,_,_,_,_,_,rfl,zbQ h kd (NoU.s3 _ _ _ _ _ _ _) (zce _ _ _ _ _),bl3 _ _ _ hg hB⟩
theorem gb3 {w W:World}{r:Rat}(u:Bool){g:Nat}{t:TypeId}{b:Bool}{A E:oA9}{n c k f:Nat}{p:Bool}{q q2:oA9}{r1 s r2 s2:Nat}(h:zaf W r b A n c E k f)(kd:Blk W g t #[.bool p,.slice q r1 s,.slice q2 r2 s2])(hB:Below w.heap.size w W)(hg:w.heap.size<=g):zbX w r u (.returned (.tuple #[.agg #[.bool b,.slice A n c,.slice E k f],.bool u])) (((W.setCell ⟨g,0,none⟩ (.bool b)).setCell ⟨g,1,none⟩ (.slice A n c)).setCell ⟨g,2,none⟩ (.slice E k f)):=
 ⟨_,_,_,_,_,_,_,rfl,zbQ h kd (NoU.s3 _ _ _ _ _ _ _) (zce _ _ _ _ _),bl3 _ _ _ hg hB⟩
section
variable {P:Program}{ops:Array Oper}{Q:Exit->Act->World->Prop}{S:World->Prop}{fuel:Nat}{l:Array Bool}{a:Act}{w:World}
theorem rgB {id:Nat}(h:Below w.heap.size w w.drew->wpAnyH P .any ops (NoPanic Q) (λw'=>Below w.heap.size w w') ops.size (Array.replicate ops.size false) a w.drew)(hm:P.follows Departure.mixedOrders=true:=by kernel_rfl):Code.wp P (.region id ops true) Q a w:=
 wp_region_noPanic (wp_region_held_drew (S:=λw'=>Below w.heap.size w w') hm (Below.refl _ w).drew h)
theorem tl (i:Nat){cl:List (Addr×Value)}(hc:∀w,S w->Cs w cl){o:Oper}{v:Value}{a':Act}(hn:wpAnyH P .any ops (NoPanic Q) S fuel (l.setIfInBounds i true) a' w)(h1:ops[i]?=some o:=by simp only [List.getElem?_toArray,List.getElem?_cons_succ,List.getElem?_cons_zero];rfl)(h2:Region.noSelect ops=true:=by kernel_rfl)(h3:Region.free .any ops l i=true:=by kernel_rfl)(h4:(Region.ready .any ops l).contains i=true:=by kernel_rfl)(h5:Region.wanted o (yielded ops a.tmps)=true:=by rfl)(h6:∀w,Cs w cl->Sem.run P (execOp a.eval o) w=Result.ok (Next.value v) w:=by((intro w b;(try dsimp only [Cs] at b);go_simp);(try with_reducible rfl)))(hS:S w:=by with_reducible assumption)(ha:a.put o.dst v=a':=by(simp only [sb9];try rfl)):wpAnyH P .any ops (NoPanic Q) S (fuel+1) l a w:=
 wpAnyH_take h1 h2 h3 h4 (λ_ _ _ h=>h) (Or.inl ⟨h5,λw hs=>h6 w (hc w hs)⟩) hS (ha▸hn)
end
theorem szw {K B x n c:Nat}{A:oA9}{w:World}(h:Hid (Sz K x))(k:zad w x A n c)(e:K<=B:=by omega):n<=B:=Nat.le_trans (h.out.words k) e
theorem szi {K B n c:Nat}{z:Int}{b:Bool}{A:oA9}{w:World}(h:Hid (Sz K z.natAbs))(k:zaN w z b A n c)(e:K<=B:=by omega):n<=B:=Nat.le_trans (h.out.words k.words) e
theorem szq {K n k c f:Nat}{r:Rat}{b:Bool}{A E:oA9}{w:World}(h:Hid (SzQ K r))(q:zaf w r b A n c E k f)(e:K<=67108864:=by omega):zaU n k:=SzQ.fit h.out q e
set_option maxRecDepth 100000
def zqb (I:Nat->World->Prop)(k:Nat)(W:World):Exit->Act->World->Prop:=λe _ W'=>e=.normal/\KeepsOthers W W'/\I k W'
def ziQ (P:Program)(gf:Nat)(lb:Array Value)(enc:Nat->Array Value)(N:Nat)(I:Nat->World->Prop):Prop:=
 ∀ (l : Nat) (J : Nat → World → Prop) (W : World),(∀ k W,J k W → I k W) →
  (∀k W,k<N->J (k+1) W->YieldAt Fence.wide 1 P l (enc k) W λe W'=>e=.returned (.bool true)/\J k W')->
  J N W->CallsIn Fence.wide 2 P gf (#[.func (.yield l) #[] #[]]++lb) W λe W'=>(∃v,e=.returned v)/\J 0 W'
theorem zeY {w W:World}{I:Nat->World->Prop}{k b:Nat}{o:Obj}(hI:∀k,OwnFrom w.heap.size (fun(_:Unit) W=>I k W))(h:I k W)(hb:w.heap.size<=b)(ho:W.heap[b]?=some o)(hc:o.isCells=false)(o':Obj):I k (W.putObj b o'):=
 (hI k).putObj (s:=()) o' h hb ho hc
theorem zjI {P:Program}{g:Operand}{ps:Array Tmp}{assign body:Code}{Q:Exit->Act->World->Prop}{a:Act}{w:World}{gf:Nat}{lb:Array Value}(hg:a.eval g=.func (.func gf) #[] lb)
  (eg:∀args w,(callFunc gf args).run P w=.ok (.enter gf args) w) (N:Nat) (c:Nat->Array Value) (o:∀k,(c k).size=ps.size) (I:Nat->World->Prop) (hI:∀k,OwnFrom w.heap.size (fun(_:Unit) W=>I k W)) (h0:I N w)
  (i:ziQ P gf lb c N I) (a1:Nat->Act)
  (b:∀(l k:Nat) (W:World) (K:Act->World->Prop),K (a1 k) W->assign.wpIn (Fence.wide.inRound l) 1 P (Exit.then K (λ_ _ _=>False)) {tmps:=(ps.zip (c k)).foldl (λt (p,v)=>t.setIfInBounds p v) a.tmps,defers:=[]} W)
  (d:∀(l k:Nat) (W:World),k<N->I (k+1) W->body.wpIn (Fence.wide.inRound l) 1 P (zqb I k W) (a1 k) W)
  (f:∀(D:Nat) (W:World),w.heap.size<=D->I 0 W->W.heap[D]?=some (.deferred (some []))->Q .normal {a with defers:={target:=.collected D,args:=#[]}::a.defers} W):
  (Code.rangeFunc g ps assign body).wpIn Fence.wide 3 P Q a w:=by
 refine wpIn_rangeFunc λfn n=>?_;obtain⟨r,hr⟩:∃r:Loop,r={state:=.ready,pending:=none,fn,tmps:=a.tmps,params:=ps,assign,body,defers:=w.heap.size}:=⟨_,rfl⟩;obtain⟨V,hV⟩:∃V,(w.alloc (.deferred (some []))).alloc (.loop r)=V:=⟨_,rfl⟩;have gV:w.grownBy V none:=by rw [<-hV];exact(World.grownBy_alloc w _ none).trans (World.grownBy_alloc _ _ none)
 have rV:V.heap[w.heap.size+1]?=some (.loop r):=by
  have h:=World.alloc_heap_new (w.alloc (.deferred (some []))) (.loop r);rw [World.size_alloc,hV] at h;exact h
 have dV:V.heap[w.heap.size]?=some (.deferred (some [])):=by
  have h:=World.alloc_heap_new w (.deferred (some []));rw [<-hV,Below.heap_alloc _ _ _ si9];exact h
 have iV:I N V:=hI N () w V none h0 gV (λ_ e=>by cases e);refine⟨w.heap.size+1,[{target:=.collected w.heap.size,args:=#[]}],V,{target:=.fn (.func gf) lb,args:=#[.func (.yield (w.heap.size+1)) #[] #[]]},V,gf,#[.func (.yield (w.heap.size+1)) #[] #[]]++lb,V,?_,?_,λ_ _=>trivial,?_,λ_=>by omega,?_⟩
 ·rw [<-hV,hr];exact run_enterLoop_outer _ _ _ _ _
 ·simp only [resolve,hg];simp [go_sem]
 ·simp [invoke,go_sem,eg]
 refine(i (w.heap.size+1) (λk W=>I k W/\W.heap[w.heap.size+1]?=some (.loop r)/\W.heap[w.heap.size]?=some (.deferred (some []))) V (λ_ _ h=>h.1) ?_ ⟨iV,rV,dV⟩).mono ?_
 ·rintro k W hk ⟨iW,rW,dW⟩;have hy:=run_yield (P:=P) (args:=c k) rW (by rw [hr];exact o k);have lt:=(Array.getElem?_eq_some_iff.1 rW).1;obtain⟨rb,m⟩:∃rb:Loop,rb={r with state:=.busy}:=⟨_,rfl⟩;have rX:(W.putObj (w.heap.size+1) (.loop rb)).heap[w.heap.size+1]?=some (.loop rb):=World.putObj_heap_same lt;have dX:(W.putObj (w.heap.size+1) (.loop rb)).heap[w.heap.size]?=some (.deferred (some [])):=(World.putObj_heap_other om9).trans dW;have iX:I (k+1) (W.putObj (w.heap.size+1) (.loop rb)):=zeY hI iW om9 rW rfl _;rw [hr] at hy;refine⟨fn,_,assign,body,hy,roundIn_of_wpIn n (b _ k W _ ⟨_,by have h:=run_beginRound (P:=P) rW (by rw [hr]);rw [<-m] at h;exact h,?_⟩)⟩;refine wpIn_mono (d _ k _ hk iX) ?_;rintro e a3 W3 ⟨rfl,j,i3⟩;have r3:=j.same _ _ rX rfl;have d3:=j.same _ _ dX rfl;have s:=(Array.getElem?_eq_some_iff.1 r3).1;have he:=run_endRound (P:=P) none r3;refine⟨_,_,he,rfl,zeY hI i3 om9 r3 rfl _,?_,(World.putObj_heap_other om9).trans d3⟩;rw [World.putObj_heap_same s,m,hr];rfl
 ·rintro e W2 ⟨⟨v,rfl⟩,i2,r2,d2⟩;have he:=run_endLoop (P:=P) r2 (by rw [hr];simp);rw [show r.pending=none from by rw [hr]] at he;exact⟨none,_,he,f _ _ (Nat.le_refl _) (zeY hI i2 om9 r2 rfl _) ((World.putObj_heap_other om9).trans d2)⟩
attribute [local go_sem] Oper.semAt_some
theorem zfB (Bs len cap:Nat)(A:oA9)(v:Nat->Nat)(I:Nat->World->Prop)(hlen:len<=1099511627776)
  (b:∀k W,I k W->W.cell? ⟨Bs,0,none⟩=some (.slice A len cap)) (c:∀k W,k<len->I (k+1) W->∃ad,A=some ad/\W.cell? (ad.add k)=some (.int .u64 (v k:Int))):
  ziQ prog 233 #[.pointer (some ⟨Bs,0,none⟩)] (λk=>#[.int .i64 (k:Int),.int .u64 (v k:Int)]) len I:=by
 intro l J W hJ hY h0;have f:=b _ _ (hJ _ _ h0);have HB:=lh9 (λk W (h:J k W)=>b k W (hJ k W h));have HC:=lh9 (λk W (hk:k<len) (h:J (k+1) W)=>c k W hk (hJ _ _ h));have HY:=lh9 hY;have H0:=lh9 h0;have g:IntKind.i64.wrap ((len:Int) - 1)=(len:Int) - 1:=by rw [IntKind.wrap_i64];omega
 clear hJ hY h0 b c;refine callsIn_of_wp func233 rfl trivial ?_ rfl;simp only [ntmps233,List.size_toArray,List.length_cons,List.length_nil,Nat.reduceAdd,Nat.reduceSub,Array.replicate_succ,Array.replicate_zero,List.push_toArray,List.append_toArray,List.nil_append,List.cons_append]
 gi_wp2
 clear f g
 gi_loopw [3] (λi wr=>∃k:Nat,k<=len/\i=.int .i64 ((k:Int) - 1)/\J k wr) (λi _=>(intOf i+1).toNat)
 case atStart=>exact⟨len,Nat.le_refl _,rfl,H0.out⟩
 case round=>
  obtain⟨k,hk,rfl,a⟩:=hrel;have hb:=HB.out _ _ a;rcases k with _|k
  ·rw [show((0:Nat):Int) - 1= -1 from by decide];clear hb
   gi_wp2
   go_end0
   exact⟨⟨_,rfl⟩,a⟩
  ·obtain⟨ad,rfl,hc⟩:=HC.out k wr hk a;obtain⟨fn,tmps,assign,body,hy,hR⟩:=HY.out k wr hk a;rw [show((k+1:Nat):Int) - 1=(k:Int) from by omega];have i1:(0:Int)<=(k:Int):=om9;have i2:(k:Int)<(len:Int):=om9;have i3:IntKind.i64.wrap ((k:Int) - 1)=(k:Int) - 1:=by rw [IntKind.wrap_i64];omega
   obtain⟨z,hz⟩:∃z,v k=z:=⟨_,rfl⟩
   try dsimp only at hy
   rw [hz] at hc hy;clear hz a
   gi_wp2
   refine hR.mono ?_;rintro e W3 ⟨rfl,d⟩
   gi_wp2
   go_roundw
   case rel=>exact⟨k,om9,rfl,d⟩
   case measure=>simp [intOf]
theorem zeH (A:oA9)(len cap:Nat)(w:World):
  Calls prog 225 #[.slice A len cap] w λe w'=>e=.returned (.func (.func 233) #[] #[.pointer (some ⟨w.heap.size,0,none⟩)])/\w.alloc (.cells #[.slice A len cap] 35)=w':=by
 go_enter func225,ntmps225;go_wp2;go_ret;exact⟨rfl,rfl⟩
section
variable {P:Program}{md:Region.Mode}{ops:Array Oper}{Q:Exit->Act->World->Prop}{l n:Nat}
theorem znp {f:FuncId}{args:Array Value}{w:World}{R R':Ending->World->Prop}(h:Calls P f args w R)(hr:∀e w,R e w->R' e w):CallsIn (Fence.wide.inRound l) n P f args w R':=
 CallsIn.inRound l (callsIn_wide.2 (h.mono hr))
theorem zoY {row:String}{args:Array Value}{w:World}{R R':Value->World->Prop}(h:Rows P row args w R)(hr:∀e w,R e w->R' e w):RowsIn (Fence.wide.inRound l) n P row args w R':=
 λc cs _=>let ⟨v,w',r,s⟩:=h c cs;⟨v,w',hr _ _ r,stepsIn_wide.2 s⟩
theorem round_op {o:Oper}{a:Act}{w:World}{K K':Act->World->Prop}(hd:∀c,o.op≠.defer c)(hK:∀a w,K a w->K' a w)(h:o.wp P a w K Q):o.wpIn (Fence.wide.inRound l) n P a w K' Q:=by
 refine⟨λ_ _=>trivial,?_⟩;rw [Oper.semAt_eq _ _ _ hd];unfold Oper.wp at h;generalize (execOp a.eval o).run P w=r at h⊢;cases r with
 |ok x w'=>
   cases x <;> simp only [Oper.upon,Oper.uponIn] at h ⊢ <;>
    first
     |exact hK _ _ h
     |exact⟨λe=>by simp [Fence.wide] at e,znp h (λe w'' he=>by cases e<;>first|exact hK _ _ he|exact he)⟩
     |exact⟨λe=>by simp [Fence.wide] at e,zoY h (λ_ _ he=>hK _ _ he)⟩
     |exact h.elim
 |halt x w'=>cases x<;>simp only [Oper.upon,Oper.uponIn] at h⊢<;>exact h
theorem zgv (hd:∀(i:Nat) (o:Oper),ops[i]?=some o->∀c,o.op≠.defer c)(hQ:¬ LetsOut Q):∀(b:Nat) (d:Array Bool) (a:Act) (w:World),wpAny P md ops Q b d a w->wpAnyIn (Fence.wide.inRound l) n P md ops Q b d a w
 |0,_,_,_,h=>h
 |b+1,d,a,w,h=>by
   refine⟨h.1,λi hi=>?_⟩;have h2:=h.2 i hi;unfold wpOp at h2;unfold wpOpIn;cases ho:ops[i]? with
   |none=>rw [ho] at h2;exact zgv hd hQ b _ _ _ h2
   |some o=>
     rw [ho] at h2;simp only at h2⊢
     split
     ·rename_i hw
      rw [if_pos hw] at h2;rcases h2 with h2|h2
      ·exact round_op (hd i o ho) (zgv hd hQ b _) h2
      ·exact absurd h2.2 hQ
     ·rename_i hw
      rw [if_neg hw] at h2;exact⟨λ_ _=>trivial,zgv hd hQ b _ _ _ h2⟩
def zpH (ops:Array Oper):Bool:=ops.all λo=>match o.op with|.defer _=>false|_=>true
theorem zlD (h:zpH ops=true)(i:Nat)(o:Oper)(ho:ops[i]?=some o)(c:Call):o.op≠.defer c:=by
 intro e;have h1:=Array.all_eq_true.1 h i (Array.getElem?_eq_some_iff.1 ho).1;rw [(Array.getElem?_eq_some_iff.1 ho).2,e] at h1;cases h1
theorem zhy {id:Nat}{a:Act}{w:World}{S:World->Prop}(hm:P.follows .mixedOrders=true)(hd:zpH ops=true)(hQ:∀a w,¬ Q .outgrown a w)(hS:S w.drew)
  (h:S w.drew->wpAnyH P .any ops Q S ops.size (Array.replicate ops.size false) a w.drew):(Code.region id ops true).wpIn (Fence.wide.inRound l) n P Q a w:=
 wpIn_region_any hm (zgv (zlD hd) (fun⟨a,w,h⟩=>hQ a w h) _ _ _ _ (wpAny_of_held _ _ _ _ (h hS)))
end
theorem zbE {B b:Nat}{t:TypeId}{cs:Array Value}{W W':World}{row:Option Nat}(h:Blk W b t cs)(hg:W.grownBy W' row)(hr:∀r,row=some r->B<=r/\∃o:Obj,W.heap[r]?=some o/\o.isCells=false):Blk W' b t cs:=
 h.grown hg (λe=>by
  obtain⟨_,o,ho,hc⟩:=hr b e.symm;rw [show W.heap[b]?=_ from h] at ho;cases ho;cases hc)
theorem zfi {B B0:Nat}{w W W':World}{row:Option Nat}(h:Below B0 w W)(h0:B0<=w.heap.size)(hB:B0<=B)(hg:W.grownBy W' row)(hr:∀r,row=some r->B<=r/\∃o:Obj,W.heap[r]?=some o/\o.isCells=false):Below B0 w W':=
 h.grown hg (Nat.le_trans h0 h.size) (λr e=>Nat.le_trans hB (hr r e).1)
