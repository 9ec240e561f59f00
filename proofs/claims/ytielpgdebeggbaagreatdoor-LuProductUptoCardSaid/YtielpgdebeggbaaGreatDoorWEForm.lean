/- What this claim leans on. -/
import Derived.Test.YtielpgdebeggbaaGreatDoorWEElim
set_option linter.unusedVariables false
set_option linter.unusedSimpArgs false
namespace Go.Proofs.YtielpgdebeggbaaGreatDoor
open Go Go.RowKit Go.Proofs.Tryz
set_option maxHeartbeats 16000000
variable {b:Bool}{z:Int}{ld xs:List Nat}{K c f k m n n' x y:Nat}{M M' R:Nat->Nat->Rat}{u v:Nat->Rat}{w:World}{A E:ze}
def Sp (n m:Nat)(M:Nat->Nat->Rat)(v:Nat->Rat):Prop:=∃y:Nat->Rat,∀j,j<m->v j=zq n λi=>y i*M i j
theorem Sp.zero:Sp n m M λ_=>0:=⟨λ_=>0,λj _=>(uE λi _=>XR _).symm⟩
theorem Sp.comb (a b:Rat)(h:Sp n m M u)(k:Sp n m M v):Sp n m M λj=>a*u j+b*v j:=by
 obtain⟨y,hy⟩:=h;obtain⟨z,hz⟩:=k;refine⟨λi=>a*y i+b*z i,λj hj=>?_⟩;show a*u j+b*v j=_;rw [hy j hj,hz j hj,wM,wM,<-tY];exact ya λi _=>by grind
theorem Sp.scale (a:Rat)(h:Sp n m M u)(e:∀j,j<m->v j=a*u j):Sp n m M v:=by
 obtain⟨y,hy⟩:=h;refine⟨λi=>a*y i,λj hj=>?_⟩;rw [e j hj,hy j hj,wM];exact ya λi _=>by grind
theorem Sp.congr (h:Sp n m M u)(e:∀j,j<m->v j=u j):Sp n m M v:=by
 obtain⟨y,hy⟩:=h;exact⟨y,λj hj=>(e j hj).trans (hy j hj)⟩
theorem je (hc:c<k)(f:Nat->Rat):zq k (λi=>(if i=c then 1 else 0)*f i)=f c:=by
 induction k with
 |zero=>cases hc
 |succ k ih=>
   rw [xw];by_cases h:c=k
   ·subst h;rw [if_pos rfl,XG,uE λi hi=>by rw [if_neg zb,XR],yD]
   ·rw [if_neg zb,XR,xK,ih zb]
theorem Sp.row {i:Nat}(hi:i<n):Sp n m M (M i):=⟨λq=>if q=i then 1 else 0,λj _=>(je hi λq=>M q j).symm⟩
theorem Sp.sum {u:Nat->Nat->Rat}(f:Nat->Rat){q:Nat}(h:∀l,l<q->Sp n m M (u l)):Sp n m M λj=>zq q λl=>f l*u l j:=by
 induction q with
 |zero=>exact Sp.zero
 |succ q ih=>
   refine((ih λl hl=>h l zb).comb 1 (f q) (h q zb)).congr λj _=>?_;rw [xw,XG]
theorem Sp.trans (h:Sp n' m M' v)(k:∀i,i<n'->Sp n m M (M' i)):Sp n m M v:=by
 obtain⟨y,hy⟩:=h;exact(Sp.sum y k).congr hy
structure RF (n m:Nat)(M:Nat->Nat->Rat)(ld:List Nat)(R:Nat->Nat->Rat):Prop where
 len:ld.length<=n
 up:∀l l',l<l'->l'<ld.length->ld.getD l 0<ld.getD l' 0
 lt:∀l,l<ld.length->ld.getD l 0<m
 piv:∀l,l<ld.length->∀i,i<n->R i (ld.getD l 0)=if i=l then 1 else 0
 zero:∀i,ld.length<=i->i<n->∀j,j<m->R i j=0
 fore:∀l,l<ld.length->∀j,j<ld.getD l 0->R l j=0
 sum:∀i,i<n->∀j,j<m->M i j=zq ld.length λl=>M i (ld.getD l 0)*R l j
 span:∀l,l<ld.length->Sp n m M (R l)
theorem RF.of_elim {a0:Nat->Nat->Rat}{e:v8}(h:sW n m m a0 e)(ht:∀i,i<n->∃t:Rat,t≠0/\∀j,j<m->a0 i j=t*M i j):RF n m M e.ld λi j=>e.p⁻¹*zl e.S i j:=by
 obtain⟨hd,a,hs,hi⟩:=h;have hp:=hi.ne
 -- rows of either are multiples of the other's
 have r1:∀i,i<n->∃i',i'<n/\∃t:Rat,∀j,j<m->a i j=t*M i' j:=λi c=>by
  obtain⟨i',k1,e,_,k3⟩:=hs.rows.1 i c;obtain⟨t,_,k4⟩:=ht i' k1;exact⟨i',k1,e*t,λj hj=>by rw [k3 j,k4 j hj];grind⟩
 have r2:∀i,i<n->∃i',i'<n/\∃t:Rat,∀j,j<m->M i j=t*a i' j:=λi c=>by
  obtain⟨i',k1,e,_,k3⟩:=hs.rows.2 i c;obtain⟨t,k2,k4⟩:=ht i c;exact⟨i',k1,t⁻¹*e,λj hj=>by have q1:=k3 j;have q2:=k4 j hj;grind⟩
 refine⟨hi.len,hi.up,hi.lt,λl hl i c=>?_,λi h1 h2 j hj=>by show e.p⁻¹*zl e.S i j=0;rw [hi.low i h1 h2 j hj,xO],λl hl j hj=>by show e.p⁻¹*zl e.S l j=0;rw [hi.fore l hl j hj,xO],λi c j hj=>?_,λl hl=>?_⟩
 ·show e.p⁻¹*zl e.S i (e.ld.getD l 0)=_;rw [hi.piv l hl i c]
  split<;>grind
 ·obtain⟨i',k1,t,k2⟩:=r2 i c;have e1:=hi.back i' k1 j hj;have e2:(if e.ld.length<=i' then zl e.S i' j else 0)=0:=by
   split
   ·next h=>exact hi.low i' h k1 j hj
   ·rfl
  rw [e2,xK] at e1;have e3:zq e.ld.length (λl=>M i (e.ld.getD l 0)*(e.p⁻¹*zl e.S l j))=t*e.p⁻¹*zq e.ld.length (λl=>a i' (e.ld.getD l 0)*zl e.S l j):=by
   rw [wM];exact ya λl hl=>by rw [k2 _ (by have:=hi.lt l hl;omega)];grind
  show M i j=zq e.ld.length (λl=>M i (e.ld.getD l 0)*(e.p⁻¹*zl e.S l j));rw [e3,k2 j hj,<-e1]
  grind
 ·have hk:=hi.len;have e1:∀j,j<m->zl e.S l j=zq e.ld.length λq=>zH e.ld.length (zL (λi j=>a i (e.ld.getD j 0)) l λi=>if i=q then 1 else 0)*a q j:=λj hj=>by
   rw [hi.col hl hj];have:zH e.ld.length (zL (λi j=>a i (e.ld.getD j 0)) l λi=>a i j)=zH e.ld.length (zL (λi j=>a i (e.ld.getD j 0)) l λi=>zq e.ld.length λq=>a q j*if i=q then 1 else 0):=uh λi c j' _=>by
    by_cases e:j'=l
    ·rw [e,vo,vo,<-je c (λq=>a q j)];exact ya λq _=>by
      rw [yM];congr 1;by_cases h:q=i
      ·rw [if_pos h,if_pos h.symm]
      ·rw [if_neg h,if_neg (Ne.symm h)]
    ·rw [vv _ e,vv _ e]
   rw [this,jO _ hl (λq=>a q j) (λq i=>if i=q then 1 else 0)];exact ya λq _=>yM _ _
  have e2:∀q,q<e.ld.length->Sp n m M (a q):=λq hq=>by
   obtain⟨i',k1,t,k2⟩:=r1 q zb;exact(Sp.row k1).scale t k2
  exact(Sp.sum _ e2).scale e.p⁻¹ λj hj=>by rw [<-e1 j hj]
theorem RF.of_span (h:RF n m M ld R){v:Nat->Rat}(hv:Sp n m M v):∀j,j<m->v j=zq ld.length λl=>v (ld.getD l 0)*R l j:=by
 obtain⟨y,hy⟩:=hv;intro j hj;rw [hy j hj];have e1:zq n (λi=>y i*M i j)=zq n (λi=>zq ld.length λl=>y i*M i (ld.getD l 0)*R l j):=ya λi hi=>by
  rw [h.sum i hi j hj,wM];exact ya λl _=>by grind
 rw [e1,aY];refine ya λl hl=>?_;rw [hy _ (h.lt l hl),yM,wM];exact ya λi _=>yM _ _
theorem RF.begins (h:RF n m M ld R){v:Nat->Rat}(hv:Sp n m M v){c:Nat}(hc:c<m)(h0:∀j,j<c->v j=0)(h1:v c≠0):∃l,l<ld.length/\ld.getD l 0=c:=by
 refine Classical.byContradiction λhn=>h1 ?_;rw [h.of_span hv c hc];refine uE λl hl=>?_;rcases XK (ld.getD l 0) c with a|a|a
 ·rw [h0 _ a,XR]
 ·exact absurd ⟨l,hl,a⟩ hn
 ·rw [h.fore l hl c a,xO]
theorem Va:∀{xs ys:List Nat},xs.Pairwise (·<·)->ys.Pairwise (·<·)->(∀x,x ∈ xs↔x ∈ ys)->xs=ys
 |[],[],_,_,_=>rfl
 |[],y::ys,_,_,h=>by have:=(h y).2 xW;cases this
 |x::xs,[],_,_,h=>by have:=(h x).1 xW;cases this
 |x::xs,y::ys,h1,h2,h=>by
   rw [List.pairwise_cons] at h1 h2;have e:x=y:=by
    rcases List.mem_cons.1 ((h x).1 xW) with a|a
    ·exact a
    ·rcases List.mem_cons.1 ((h y).2 xW) with b|b
     ·exact b.symm
     ·have:=h1.1 y b;have:=h2.1 x a;omega
   subst e;congr 1;refine Va h1.2 h2.2 λz=>⟨λhz=>?_,λhz=>?_⟩
   ·rcases List.mem_cons.1 ((h z).1 (XB _ hz)) with a|a
    ·have:=h1.1 z hz;omega
    ·exact a
   ·rcases List.mem_cons.1 ((h z).2 (XB _ hz)) with a|a
    ·have:=h2.1 z hz;omega
    ·exact a
theorem lC {l:Nat}(h:l<xs.length):xs.getD l 0 ∈ xs:=by
 rw [qQ,qY h];exact xH h
theorem Zf (h:x ∈ xs):∃l,l<xs.length/\xs.getD l 0=x:=by
 obtain⟨l,hl,e⟩:=List.mem_iff_getElem.1 h;exact⟨l,hl,by rw [qQ,qY hl];exact e⟩
theorem RF.rising (h:RF n m M ld R):ld.Pairwise (·<·):=by
 rw [List.pairwise_iff_getElem];intro i j hi hj a;have:=h.up i j a hj;rw [qQ,qQ,qY hi,qY hj] at this;exact this
theorem RF.one {R':Nat->Nat->Rat}{a:List Nat}(h:RF n m M ld R)(k:RF n' m M' a R')(h1:∀i,i<n'->Sp n m M (M' i))(h2:∀i,i<n->Sp n' m M' (M i)):ld=a/\∀l,l<ld.length->∀j,j<m->R l j=R' l j:=by
 have s1:∀l,l<a.length->Sp n m M (R' l):=λl hl=>(k.span l hl).trans h1;have s2:∀l,l<ld.length->Sp n' m M' (R l):=λl hl=>(h.span l hl).trans h2;have e:ld=a:=by
  refine Va h.rising k.rising λx=>⟨λhx=>?_,λhx=>?_⟩
  ·obtain⟨l,hl,rfl⟩:=Zf hx;obtain⟨q,hq,e⟩:=k.begins (s2 l hl) (h.lt l hl) (h.fore l hl) (by rw [h.piv l hl l (by have:=h.len;omega),if_pos rfl];decide+kernel);rw [<-e];exact lC hq
  ·obtain⟨l,hl,rfl⟩:=Zf hx;obtain⟨q,hq,e⟩:=h.begins (s1 l hl) (k.lt l hl) (k.fore l hl) (by rw [k.piv l hl l (by have:=k.len;omega),if_pos rfl];decide+kernel);rw [<-e];exact lC hq
 subst e;refine⟨rfl,λl hl j hj=>?_⟩;have hk:=h.len;rw [k.of_span (s2 l hl) j hj];have:zq ld.length (λq=>R l (ld.getD q 0)*R' q j)=zq ld.length (λq=>(if q=l then 1 else 0)*R' q j):=ya λq hq=>by
  rw [h.piv q hq l zb];by_cases e:q=l
  ·rw [if_pos e,if_pos e.symm]
  ·rw [if_neg e,if_neg (Ne.symm e)]
 rw [this,je hl]
theorem RF.inj (h:RF n m M ld R){l q:Nat}(hl:l<ld.length)(hq:q<ld.length)(e:ld.getD l 0=ld.getD q 0):l=q:=by
 rcases XK l q with a|a|a
 ·have:=h.up l q a hq;omega
 ·exact a
 ·have:=h.up q l a hl;omega
theorem pN (k:Nat)(f g:Nat->Rat):zq k (λi=>f i - g i)=zq k f - zq k g:=by
 have:=tY k f (λi=> -g i);rw [Zs] at this;rw [Rat.sub_eq_add_neg,<-this];exact ya λi _=>Rat.sub_eq_add_neg _ _
theorem RF.some (n m:Nat)(G:Nat->Nat->Rat):∃ld R,RF n m G ld R:=by
 have h:=Ut (tU n m G) (qX m);refine⟨_,_,RF.of_elim h λi hi=>⟨1,by decide+kernel,λj hj=>by rw [sC hi hj,XG]⟩⟩
set_option maxRecDepth 100000
theorem zp.to8 (e:x=y)(h:zp w x A n c):zp w y A n c:=e▸h
theorem yf.to8 {x y:Int}(e:x=y)(h:yf w x b A n c):yf w y b A n c:=e▸h
theorem Vq (x:Nat)(A:ze)(n c:Nat)(w:World)(h:zp w x A n c)(hn:n<=1099511627776):
  Calls prog 107 #[.agg #[.slice A n c]] w λe w'=>∃(B:ze) (m d:Nat),e=.returned (.slice B m d)/\zp w' x B m d/\Below w.heap.size w w':=by
 refine(ja x A n c w h hn).mono ?_;rintro e w' ⟨B,d,rfl,h1,h2,h3,h4⟩;exact⟨B,_,d,rfl,⟨h1,h2,h3.1⟩,h4⟩
theorem kC (x:Nat)(A:ze)(n c:Nat)(w:World)(h:zp w x A n c)(hn:n<=1099511627776):
  Calls prog 106 #[.slice A n c] w λe w'=>∃(B:ze) (m d:Nat),e=.returned (.agg #[.slice B m d])/\zp w' x B m d/\Below w.heap.size w w':=by
 have k:=uW A n c _ w h.1 (uV zf x) h.2.1 h.2.2 hn;rw [uk zf] at k;refine k.mono ?_;rintro e w' ⟨B,m,d,rfl,h1,h2,_⟩;exact⟨B,m,d,rfl,h1,h2⟩
theorem U2 {P:Program}{f:FuncId}{args:Array Value}{v:Int}(e:z=v)(h:Calls P f args w λe w'=>e=.returned (.tuple #[.int .u64 z,.bool true])/\Below w.heap.size w w'):Calls P f args w λe w'=>e=.returned (.tuple #[.int .u64 v,.bool true])/\Below w.heap.size w w':=by
 subst e;exact h
theorem dF {K':Nat}(h:Sz K z.natAbs)(h':Sz K' k):Sz (K+K') (z*((k:Nat):Int)).natAbs:=by
 rw [xR,yB];exact h.mul h'
theorem xx {q:Nat}(h:Sz K q)(e:q=(if x=0 then 1 else x)/\x≠1):Sz K x:=h.of_le (by rw [e.1];split<;>omega)
theorem xg {r:Rat}(h:zo w r b A n c E k f)(q:zU n k)(hK:67108864=K):zn K r:=by
 obtain⟨x,e,hx⟩:=h.2;have h1:Sz K r.num.natAbs:=Sz.of_words h.1.2 (by have:=q.1;omega);have h2:Sz K x:=Sz.of_words hx (by have:=q.2;omega);refine⟨h1,?_⟩;rw [e.1]
 split
 ·exact eE zb
 ·exact h2
theorem eK (w:World):zp w 0 none 0 0:=by
 refine⟨⟨by rw [show dg 18446744073709551616 0=[] from by rw [dg];rfl];rfl,λh=>absurd h zf⟩,qX _,zf⟩
theorem aB (w:World):zo w (0:Rat) false none 0 0 none 0 0:=⟨⟨rfl,eK w⟩,⟨0,⟨rfl,zf⟩,eK w⟩⟩
theorem dJ (h:yf w z b A n c):zo w (z:Rat) b A n c none 0 0:=⟨by rw [yW];exact h,⟨0,⟨by rw [YQ];rfl,zf⟩,eK w⟩⟩
theorem R5 {r:Rat}(hn:r.num=z)(hd:r.den=1)(h:yf w z b A n c)(q:zp w 0 E k f):zo w r b A n c E k f:=
 ⟨by rw [hn];exact h,⟨0,⟨by rw [hd];rfl,zf⟩,q⟩⟩
theorem WC {r:Rat}(hn:r.num=z)(hd:r.den=y)(hy:y≠1)(h:yf w z b A n c)(q:zp w y E k f):zo w r b A n c E k f:=
 ⟨by rw [hn];exact h,⟨y,⟨by rw [if_neg (λh0=>r.den_nz (by rw [hd,h0]))];exact hd,hy⟩,q⟩⟩
theorem aM {q:Nat}(e:q=(if x=0 then 1 else x)/\x≠1)(h:q=1):x=0:=by
 refine Decidable.byContradiction λh0=>?_;rw [if_neg h0] at e;omega
theorem fR {q:Nat}(e:q=(if x=0 then 1 else x)/\x≠1)(h:q≠1):x≠0/\x=q:=by
 have h0:x≠0:=λh0=>h (by rw [e.1,if_pos h0]);refine⟨h0,?_⟩;have:=e.1;rw [if_neg h0] at this;exact this.symm
theorem Qb (z:Int):zW (decide (z<0)) z.natAbs=z:=by
 unfold zW;by_cases h:z<0
 ·rw [decide_eq_true h,if_pos rfl];omega
 ·rw [decide_eq_false h,if_neg zf];omega
theorem Qz (h:zp w x A n c)(hn:n<=1):x<18446744073709551616:=Zi h.len hn
theorem nO (h:zp w x A n c)(hx:x=1):n<=1:=by
 have h1:Sz 1 x:=by rw [hx];exact eE zf
 exact h1.words h
theorem Ro (p d:Int)(hd:d≠0):(Rat.divInt p d).num=zW (decide (p<0) !=decide (d<0)) (p.natAbs / Nat.gcd p.natAbs d.natAbs)/\(Rat.divInt p d).den=d.natAbs / Nat.gcd p.natAbs d.natAbs:=by
 refine⟨?_,qj p d hd⟩;have h1:=qk p d hd;have h2:=Q2 p d hd;rw [<-h1];generalize (Rat.divInt p d).num=z at*;unfold zW;by_cases hp:p<0
 ·by_cases hq:d<0
  ·rw [decide_eq_true hp,decide_eq_true hq];simp;omega
  ·rw [decide_eq_true hp,decide_eq_false hq];simp;omega
 ·by_cases hq:d<0
  ·rw [decide_eq_false hp,decide_eq_true hq];simp;by_cases h0:p=0
   ·subst h0;simp at h1;omega
   ·omega
  ·rw [decide_eq_false hp,decide_eq_false hq];simp;omega
def od (l:Rat)(row:List Rat):Rat:=row.foldl (λl x=>l*(((l*x).den:Nat):Rat)) l
def zI (row:List Rat):Rat:=od 1 row
def ut (x:Rat):Prop:=∃z:Int,x=(z:Rat)
theorem ut.mul {x y:Rat}(h:ut x)(k:ut y):ut (x*y):=by
 obtain⟨z,rfl⟩:=h;obtain⟨t,rfl⟩:=k;exact⟨z*t,(yP z t).symm⟩
theorem ut.nat (n:Nat):ut (n:Rat):=⟨n,(YU n).symm⟩
theorem lY (x:Rat):((x.den:Nat):Rat)≠0:=λh=>x.den_nz (by
 have:((x.den:Nat):Rat)=((0:Nat):Rat):=h;exact Rat.natCast_inj.1 this)
theorem nu (x:Rat):ut (((x.den:Nat):Rat)*x):=⟨x.num,by rw [yM];exact gN x⟩
theorem fh (l x:Rat)(row:List Rat):od l (x::row)=od (l*(((l*x).den:Nat):Rat)) row:=rfl
theorem dK:∀{row:List Rat} {l:Rat},l≠0->od l row≠0
 |[],_,h=>h
 |x::row,l,h=>by
   rw [fh];refine dK λe=>?_;rcases Rat.mul_eq_zero.1 e with e|e
   ·exact h e
   ·exact lY _ e
theorem dL:∀{row:List Rat} {l:Rat},∃q:Rat,ut q/\od l row=q*l
 |[],l=>⟨1,⟨1,by decide+kernel⟩,(XG l).symm⟩
 |x::row,l=>by
   obtain⟨q,hq,e⟩:=dL (row:=row) (l:=l*(((l*x).den:Nat):Rat));exact⟨q*(((l*x).den:Nat):Rat),hq.mul (ut.nat _),by rw [fh,e];grind⟩
theorem Vn:∀{row:List Rat} {l:Rat},∀x ∈ row,ut (od l row*x)
 |x::row,l,y,h=>by
   rcases List.mem_cons.1 h with rfl|h
   ·obtain⟨q,hq,e⟩:=dL (row:=row) (l:=l*(((l*y).den:Nat):Rat));rw [fh,e];have:=hq.mul (nu (l*y));rw [show q*(l*(((l*y).den:Nat):Rat))*y=q*((((l*y).den:Nat):Rat)*(l*y)) by grind];exact this
   ·rw [fh];exact Vn y h
theorem nr {q:Int}{r:Rat}(h:(q:Rat)*r=(z:Rat)):(r.den:Int)∣ q:=by
 have h1:(q:Rat)*(r*((r.den:Nat):Rat))=(z:Rat)*((r.den:Nat):Rat):=by rw [<-h];grind
 rw [gN,<-yP,<-YU,<-yP] at h1;have h2:q*r.num=z*(r.den:Int):=Rat.intCast_inj.1 h1;have h3:r.den ∣ q.natAbs*r.num.natAbs:=by
  rw [<-xR,h2,xR];exact⟨z.natAbs,by rw [QQ];rfl⟩
 have h4:r.den ∣ q.natAbs:=Nat.Coprime.dvd_of_dvd_mul_right r.reduced.symm h3;exact Int.ofNat_dvd_left.2 h4
theorem LI.int {x:Rat}(h:LI K x):ut x:=by obtain⟨z,e,_⟩:=h;exact⟨z,e⟩
theorem LI.of_mul {q x y:Rat}(h:LI K y)(hq:ut q)(hx:ut x)(e:y=q*x)(h0:q≠0):LI K x:=by
 obtain⟨z,rfl⟩:=hq;obtain⟨t,rfl⟩:=hx;obtain⟨v,rfl,hv⟩:=h;refine⟨t,rfl,hv.of_le ?_⟩;rw [<-yP] at e;rw [Rat.intCast_inj.1 e,xR];have:z≠0:=λhz=>h0 (by rw [hz];rfl);exact Nat.le_mul_of_pos_left _ (Int.natAbs_pos.2 this)
theorem Pp {row:List Rat}{l:Rat}(h:ut l):ut (od l row):=by
 obtain⟨q,hq,e⟩:=dL (row:=row) (l:=l);rw [e];exact hq.mul h
theorem mo:ut 1:=⟨1,by decide+kernel⟩
theorem Vo (row:List Rat):zI row≠0:=dK (by decide+kernel)
theorem Uf:∀{row:List Rat} {l:Rat} {K L:Nat},LI L l->(∀x ∈ row,zn K x)->LI (L+row.length*K) (od l row)
 |[],l,K,L,hl,_=>by rw [YM,Nat.zero_mul];exact hl
 |x::row,l,K,L,hl,h=>by
   rw [fh];have h1:LI K (((l*x).den:Nat):Rat):=by
    obtain⟨z,hz,_⟩:=hl;have hd:(l*x).den ∣ x.den:=by
     have:((x.den:Int):Rat)*(l*x)=((z*x.num:Int):Rat):=by
      rw [yP,<-hz,<-gN x,YU];grind
     exact Int.natCast_dvd_natCast.1 (nr this)
    exact⟨((l*x).den:Int),(YU _).symm,((h x xW).den).of_le (Nat.le_of_dvd (xN x.den_nz) hd)⟩
   refine(Uf (K:=K) (hl.mul h1) λy hy=>h y (XB _ hy)).up ?_;rw [xJ,Nat.succ_mul];omega
theorem kz {l x:Rat}{L:Nat}(hl:LI L l)(hx:zn K x)(hi:ut (l*x)):LI (L+K) (l*x):=by
 obtain⟨z,hz,a⟩:=hl;obtain⟨t,ht⟩:=hi;refine⟨t,ht,?_⟩
 -- t*den=z*num
 have h1:t*(x.den:Int)=z*x.num:=by
  have:(t:Rat)*((x.den:Nat):Rat)=(z:Rat)*(x.num:Rat):=by
   rw [<-ht,hz,<-gN x];grind
  rw [<-YU,<-yP,<-yP] at this;exact Rat.intCast_inj.1 this
 have h2:t.natAbs*x.den=z.natAbs*x.num.natAbs:=by
  rw [<-xR,<-h1,xR];rfl
 refine(a.mul hx.num).of_le ?_;rw [<-h2];exact Nat.le_mul_of_pos_right _ (xN x.den_nz)
theorem ie {row:List Rat}(hn:row.length<=n)(h:∀x ∈ row,zn K x):LI (1+(n+1)*K) (zI row)/\∀x ∈ row,LI (1+(n+1)*K) (zI row*x):=by
 have h1:=Uf (K:=K) LI.one h;have hm:row.length*K<=n*K:=qS _ hn;have hs:(n+1)*K=n*K+K:=Nat.succ_mul n K;exact⟨h1.up zb,λx hx=>(kz h1 (h x hx) (Vn x hx)).up zb⟩
theorem Ra {row:List Rat}(h:LI K (zI row)):LI K (zI (row.take k)):=by
 obtain⟨q,hq,e⟩:=dL (row:=row.drop k) (l:=zI (row.take k));have e2:od (zI (row.take k)) (row.drop k)=zI row:=by
  unfold zI od;rw [<-yI,YS]
 rw [e2] at e;exact h.of_mul hq (Pp mo) e λhz=>Vo row (by rw [e,hz,XR])
theorem S9 {row:List Rat}(h:k<row.length):zI (row.take (k+1))=zI (row.take k)*(((zI (row.take k)*row.getD k 0).den:Nat):Rat):=by
 unfold zI od;rw [QZ h,yI,qQ,qY h];rfl
theorem mi {x:Rat}(h:x.den≠1):(x.num:Rat) / x=((x.den:Nat):Rat):=by
 have hx:x≠0:=λe=>h (by rw [e];rfl);have:=gN x;rw [<-this]
 grind
