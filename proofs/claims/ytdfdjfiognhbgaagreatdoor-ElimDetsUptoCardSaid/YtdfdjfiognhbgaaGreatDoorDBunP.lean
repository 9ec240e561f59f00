/- What this claim leans on. -/
import Derived.Test.YtdfdjfiognhbgaaGreatDoorDS8Sum
set_option linter.unusedVariables false
set_option linter.unusedSimpArgs false
namespace Go.Proofs.YtdfdjfiognhbgaaGreatDoor
open Go Go.RowKit Go.Proofs.Tryz
set_option maxHeartbeats 16000000
variable {K k n x:Nat}{w:World}{A:ze}
theorem Sz.len16' (h:Sz K x):(dg 65536 x).length<=4*K:=wy zg _ _ (by rw [fm];exact h)
theorem Sz.holds' (h:Sz K x){w:World}{A:ze}{n c:Nat}(hw:zB w x A n c):n<=4*K:=by rw [hw.len];exact h.len16'
theorem U3 (cs:Array Value)(l:List Nat)(w:World)(g n x:Nat)(hk:zh w g 132 cs)(hn:cs.size=n)(hv:cs.toList=zq .u64 l)(hd:zD 18446744073709551616 l)(hx:dv 18446744073709551616 l=x)(hs:n<=1000):
  Calls prog 88 #[.slice (some ⟨g,0,none⟩) n n] w (vc w x):=by
 have hl:l.length=n:=by
  have h:=congrArg List.length hv;rw [wt] at h;rw [<-h];simpa using hn
 have:=mo (some ⟨g,0,none⟩) n n l w (ju hk hn (by rw [hv,qU (by rw [wt];omega)]) hl) hd zb;rw [hx] at this;exact this
set_option maxRecDepth 100000
def oX (w:World)(e:Ending)(w':World):Prop:=e=.returned (.bool true)/\Below w.heap.size w w'
theorem iv (x:Nat)(A D:ze)(n c m d:Nat)(w:World)(hA:zn w x A n c)(hD:zB w x D m d)(hn:n<=1099511627776)(hm:m<=1099511627776):
  Calls prog 47 #[.agg #[.slice A n c],.slice D m d] w (oX w):=by
 have HW:=(λw' (hb:Below w.heap.size w w')=>lY x A n c w' (hA.below hb) hn);have HR:=zj w (λw' hb=>Wn x D m d w' (hD.below hb) hm);have HI:=zj w (λw' hb A1 c1 (h:zH w' w'.heap.size 1 A1 n (zq .u64 (dg 18446744073709551616 x)))=>mn x D A1 m d n c1 w' (hD.below hb) hm h hn);have a:=hA.len;unfold kv at HW HR;rw [a] at HW HR;have j:=za HW;have i:=za HR;clear HW HR a hA hD;go_enter func47,ntmps47;go_wp2_with fail;obtain⟨b1,b2,b5⟩:=zw w 37 #[.slice A n c];refine(j.o _ b1).mono ?_;rintro e w1 ⟨A1,c1,rfl,g,h1,⟨h2,_⟩,hb⟩;have hB:=zc b1 hb;have g1:w1.cell? ⟨w.heap.size,0,none⟩=some (.slice A n c):=zt hb (b2.cell 0);clear hb b1 b2 b5;go_wp2_with fail;refine(HI.o _ hB A1 c1 g).mono ?_;rintro e w2 ⟨rfl,hb⟩;have hB:=zc hB hb;have g1:=zt hb g1;clear hb g;go_wp2_with fail;refine(vN x _ _ _ _).mono ?_;rintro e w3 ⟨rfl,hb⟩;have hB:=zc hB hb;clear hb g1;go_wp2_with fail;refine(i.o _ hB).mono ?_;rintro e w4 ⟨A2,c2,rfl,_,_,_,hb⟩;have hB:=zc hB hb;clear hb;go_wp2;go_ret;exact⟨rfl,hB⟩
theorem Od {K' L:Nat}{x y r:Rat}{b b' s:Bool}{A' D:ze}{n' m c c' d:Nat}{E E' U:ze}{k' u f f' v:Nat}(g:Nat)(hT:zu w)(hr:zo w r s D m d U u v)(hk:zh w g 41 #[.bool s,.slice D m d,.slice U u v])
  (h:zo w x b A n c E k f) (h':zo w y b' A' n' c' E' k' f') (zx:zm K x) (zy:zm K' y) (zr:zm L r) (hK:K<=67108864) (hK':L+K'<=67108864):
  Calls prog 172 #[.agg #[.bool b,.slice A n c,.slice E k f],.agg #[.bool b',.slice A' n' c',.slice E' k' f'],.pointer (some ⟨g,0,none⟩)] w (xe w (x+r*y)):=by
 have HT:=zj w (λw' hb=>hT.on hb);have HX:=zj w (λw' hb=>h.below hb);have HY:=zj w (λw' hb=>h'.below hb);have HR:=zj w (λw' hb=>hr.below hb);have HK:=zj w (λw' hb=>zf hb hk);have M:=za zx;have o:=za zy;have j:=za zr;clear hT hr hk h h' zx zy zr;obtain⟨t,z,B,C,bz⟩:=yn w 41 41 41 #[.bool b,.slice A n c,.slice E k f] #[.bool b',.slice A' n' c',.slice E' k' f'] #[.bool false,.slice none 0 0,.slice none 0 0];have i:=za t;have H:=za z;have I:=za B;have J:=za C;clear t z B C bz;go_enter func172,ntmps172;go_wp2_with fail;generalize ((w.alloc (.cells #[.bool b,.slice A n c,.slice E k f] 41)).alloc (.cells #[.bool b',.slice A' n' c',.slice E' k' f'] 41)).alloc (.cells #[.bool false,.slice none 0 0,.slice none 0 0] 41)=W1 at*;obtain⟨p0,p1,p2⟩:=H.o.c3;obtain⟨q0,q1,q2⟩:=I.o.c3;obtain⟨g0,g1,g2⟩:=(HK.o _ i.o).c3;have hB:=i.o;have kr:=J.o;have a:=(qZ W1.heap.size W1).drew;refine rg (zl p0 (zl p1 (zl p2 (zl g0 (zl g1 (zl g2 (zl q0 (zl q1 (zl q2 zJ))))))))) (λhHeld=>?_);refine tk 0 ?_;refine tk 1 ?_;refine tk 2 ?_;refine rc 3 (λKK hK=>?_);go_simp;(with_reducible refine(ia (HT.o _ (zc hB a)) (HR.o _ (zc hB a)) (HY.o _ (zc hB a)) j.o o.o zb zb).mono ?_);rintro e wa ⟨b1,A1,n1,c1,E1,k1,f1,rfl,F,hb⟩;have a:=zc a hb;refine hK.out _ _ (Cs.below hHeld hb) (λhHeld=>?_);clear hK KK hb;refine rc 4 (λKK hK=>?_);go_simp;(with_reducible refine(gH (HT.o _ (zc hB a)) (HX.o _ (zc hB a)) F M.o (j.o.mul o.o) zb zb).mono ?_);rintro e wb ⟨b2,A2,n2,c2,E2,k2,f2,rfl,G,hb⟩;have a:=zc a hb;refine hK.out _ _ (Cs.below hHeld hb) (λhHeld=>?_);clear hK KK hb;have kr:=zf a kr;obtain⟨N,Q,O,R,P,S⟩:=yh kr (.bool b2) (.slice A2 n2 c2);obtain⟨r0,r1,r2⟩:=(yg kr (.bool b2) (.slice A2 n2 c2) (.slice E2 k2 f2)).c3;have HG:=za (wZ G kr (zc hB a) zb);refine rc 5 (λKK hK=>?_);go_simp;refine hK.out _ _ ?_ (λhHeld=>?_)
 ·have hg:g<w.heap.size:=by
   have h1:=(HK.o _ (qZ _ w)).lt;exact h1
  refine Cs.far hHeld (vw _ _ _ _ _) ?_;refine⟨?_,?_,?_,?_,?_,?_,?_,?_,?_,trivial⟩<;>(simp;try omega)
 clear hK KK;refine zT ?_;clear N Q O R P S hHeld F G kr;go_wp2;refine bodyPost_ret (v:=.agg #[.bool b2,.slice A2 n2 c2,.slice E2 k2 f2]) (by simp [results,results172,go_sem,r0,r1,r2]) rfl ?_;exact HG.o
section
variable {K K' L:Nat}{r:Rat}{xs ys:List Rat}{A B:ze}{n n' c d:Nat}{w:World}{s:Bool}{D:ze}{m e9:Nat}{U:ze}{u v:Nat}
theorem pL (hT:zu w)(ha:zU w A n c xs)(hr:zo w r s D m e9 U u v)(hb:zU w B n d ys)(hx:zK K xs)(zr:zm L r)(hy:zK K' ys)(hn:n<=1073741824:=by omega)(hK:K<=67108864:=by omega)(t:L+K'<=67108864:=by omega):
  Calls prog 155 #[.slice A n c,.agg #[.bool s,.slice D m e9,.slice U u v],.slice B n d] w (m0 w n (kB xs r ys)):=by
 have hla:=ha.len;have hlb:=hb.len;obtain⟨a,o,bz⟩:=zw w 41 #[.bool s,.slice D m e9,.slice U u v];have hmf:∀(fn:Fn) (first cap:Array Value) (w:World),(Instr.makeFunc fn first cap).run prog w=.ok (.func fn first cap) w:=λ_ _ _ _=>rfl;have H:=za (RS (λx y=>x+r*y) 172 #[.pointer (some ⟨w.heap.size,0,none⟩)] xs ys A B n c d _ (ha.keep a) (hb.keep a) hn nv (λi hi w' j b b' A A' n n' c c' E E' k k' f f' h1 h2=>
  Od (w.heap.size) ((hT.on a).on j) ((hr.below a).below j) (zf j o) h1 h2 (hx.at_ zb) (hy.at_ zb) zr hK t))
 have hB:=a;clear ha hb hx hy hT hr a o bz;go_enter func155,ntmps155;go_wp2_with fail;refine H.o.mono ?_;rintro e w1 ⟨g,rfl,h1,h2,h3⟩;have HG:=za (And.intro (qL hB.size h1) (And.intro h2 (zc hB h3)));clear h1 h2 h3 hB;go_wp2
 go_ret2
 exact⟨g,rfl,HG.o⟩
end
theorem xw {g:Nat}{xs:List Rat}(h:vP w g n xs)(hn:n<=1073741824:=by omega):zU w (some ⟨g,0,none⟩) n n xs:=wA.row h zb
section
variable {K K':Nat}{xs ys:List Rat}{A B:ze}{n n' c d:Nat}{w:World}
end
structure iQ (w:World)(A:ze)(n:Nat)(Ls:List (List Rat)):Prop where
 len:Ls.length=n
 num:∀i L,Ls[i]?=some L->∃(ad:Addr) (B:ze) (d:Nat),A=some ad/\ad.block<w.heap.size/\w.cell? (ad.add i)=some (.slice B L.length d)/\zU w B L.length d L
theorem iQ.below {w':World}{Ls:List (List Rat)}(h:iQ w A n Ls)(hb:Below w.heap.size w w'):iQ w' A n Ls:=
 ⟨h.len,λi L hi=>by
  obtain⟨ad,B,d,e,h1,h2,h3⟩:=h.num i L hi;exact⟨ad,B,d,e,qJ h1 hb.size,zt hb h2,h3.keep hb⟩⟩
theorem vY {α:Type}{xs:List α}{d:α}(h:k<xs.length):xs[k]?=some (xs.getD k d):=by
 rw [qQ,qX h];rfl
section
variable {K L:Nat}{rs:List Rat}{Ls:List (List Rat)}{A B:ze}{n n' c d:Nat}{w:World}
end
theorem TZ (x y:Nat)(A D:ze)(n m c d:Nat)(w:World)(hA:zB w x A n c)(hD:zB w y D m d)(hn:n<=1073741824)(hm:m<=1073741824):
  Calls prog 138 #[.slice A n c,.slice D m d] w (kG w (Nat.gcd x y)):=by
 by_cases hx:x=0
 ·have e:n=0:=by rw [hA.len,hx,pV];rfl
  have HD:=za hD;have hg:Nat.gcd x y=y:=by rw [hx,XE]
  rw [hg];subst e;clear hA hD hx hg;go_enter func138,ntmps138;go_wp2;go_ret;exact⟨D,m,d,rfl,HD.o,qZ _ _⟩
 ·by_cases hy:y=0
  ·have e:m=0:=by rw [hD.len,hy,pV];rfl
   have a:=fd hA hx;have z1:((n:Int)==0)=false:=by simp;omega
   have HA:=za hA;have hg:Nat.gcd x y=x:=by rw [hy,Nat.gcd_zero_right]
   rw [hg];subst e;clear hA hD hx hy hg a;go_enter func138,ntmps138;go_wp2;go_ret;exact⟨A,n,c,rfl,HA.o,qZ _ _⟩
  ·refine(pc x y A D n m c d w hA hD hn hm hx hy).mono λe w' hg=>?_;obtain⟨A',n',c',he,hh,hb⟩:=hg.elim;exact⟨A',n',c',he,hh,hb⟩
structure ua (n:Nat)(F:(Nat->Nat->Rat)->Rat):Prop where
 congr:∀M N:Nat->Nat->Rat,(∀i,i<n->∀j,j<n->M i j=N i j)->F M=F N
 lin:∀(M:Nat->Nat->Rat) (k:Nat),k<n->∀(a b:Rat) (u v:Nat->Rat),F (zL M k λi=>a*u i+b*v i)=a*F (zL M k u)+b*F (zL M k v)
 same:∀(M:Nat->Nat->Rat) (k l:Nat),k<n->l<n->k≠l->(∀i,i<n->M i k=M i l)->F M=0
theorem ua.det_ (n:Nat):ua n (zI n):=⟨λM N h=>uq h,λM k hk a b u v=>mU M hk a b u v,λM k l hk hl c h=>by
 rw [uq (N:=zL M k λi=>M i l) λi hi j _=>?_]
 ·exact ef hk hl c
 ·by_cases e:j=k
  ·rw [e,wV];exact h i hi
  ·rw [va _ e]⟩
theorem aD {M:Nat->Nat->Rat}{l:Nat}(h:k≠l)(u v:Nat->Rat):zL (zL M k u) l v=zL (zL M l v) k u:=by
 funext i j
 unfold zL;by_cases e:j=l
 ·rw [if_pos e,if_neg zb,if_pos e]
 ·rw [if_neg e,if_neg e]
theorem ua.swap {F:(Nat->Nat->Rat)->Rat}(h:ua n F){M:Nat->Nat->Rat}{k l:Nat}(hk:k<n)(hl:l<n)(c:k≠l)(u v:Nat->Rat):F (zL (zL M k u) l v)= -F (zL (zL M k v) l u):=by
 have same:∀w:Nat->Rat,F (zL (zL M k w) l w)=0:=λw=>h.same _ k l hk hl c λi _=>by
  rw [wV,va _ c,wV]
 have e1:∀a b x y:Nat->Rat,F (zL (zL M k a) l λi=>1*x i+1*y i)=1*F (zL (zL M k a) l x)+1*F (zL (zL M k a) l y):=λa b x y=>h.lin _ l hl 1 1 x y;have e2:∀b x y:Nat->Rat,F (zL (zL M k λi=>1*x i+1*y i) l b)=1*F (zL (zL M k x) l b)+1*F (zL (zL M k y) l b):=λb x y=>by
  rw [aD c,aD c,aD c];exact h.lin _ k hk 1 1 x y
 have h1:=same λi=>1*u i+1*v i;rw [e1 _ u,e2,e2,same u,same v] at h1
 grind
theorem ua.sum {F:(Nat->Nat->Rat)->Rat}(h:ua n F)(M:Nat->Nat->Rat){k:Nat}(hk:k<n)(f:Nat->Rat)(u:Nat->Nat->Rat):∀q,F (zL M k λi=>zC q λl=>f l*u l i)=zC q λl=>f l*F (zL M k (u l))
 |0=>by
   have e:=h.lin M k hk 0 0 (λ_=>0) (λ_=>0);have e2:(zL M k λi=>zC 0 λl=>f l*u l i)=zL M k λi=>0*(λ_:Nat=>(0:Rat)) i+0*(λ_:Nat=>(0:Rat)) i:=by
    congr 1;funext i;show(0:Rat)=0*0+0*0;grind
   rw [e2,e];show _=(0:Rat);grind
 |q+1=>by
   have e2:(zL M k λi=>zC (q+1) λl=>f l*u l i)=zL M k λi=>1*(λi=>zC q λl=>f l*u l i) i+f q*u q i:=by
    congr 1;funext i;rw [wj];grind
   rw [e2,h.lin M k hk,h.sum M hk f u q,wj,XA]
theorem Vq:∀{m:Nat} {L:List Nat},L.Nodup->(∀x ∈ L,x<m)->L.length<=m
 |0,L,_,h=>by
   cases L with
   |nil=>exact qY _
   |cons x xs=>exact absurd (h x xM) zb
 |m+1,L,hn,h=>by
   have h1:=Vq (m:=m) (hn.erase m) λx hx=>by
    have h2:=hn.mem_erase_iff.1 hx;have:=h x h2.2;have:=h2.1;omega
   by_cases hm:m ∈ L
   ·rw [List.length_erase_of_mem hm] at h1;omega
   ·rw [List.erase_of_not_mem hm] at h1;omega
def wD:Nat->Nat->Rat:=λi j=>if i=j then 1 else 0
theorem ua.units {F:(Nat->Nat->Rat)->Rat}(h:ua n F)(h1:F wD=0):∀(d t:Nat),t+d=n->∀(f:Nat->Nat),(∀j,j<n->f j<n)->(∀j,j<t->f j=j)->F (λi j=>if i=f j then 1 else 0)=0
 |0,t,ht,f,hf,hfix=>by
   rw [h.congr _ wD λi _ j hj=>?_]
   ·exact h1
   ·show(if i=f j then(1:Rat) else 0)=if i=j then 1 else 0
    rw [hfix j zb]
 |d+1,t,ht,f,hf,hfix=>by
   by_cases hj:∃j,j<n/\f j=t
   ·obtain⟨j,g,c⟩:=hj;by_cases e:j=t
    ·exact h.units h1 d (t+1) zb f hf λq hq=>by
      by_cases e2:q=t
      ·rw [e2,<-e,c,e]
      ·exact hfix q zb
    ·have hjgt:t<j:=by
      rcases XT j t with a|a|a
      ·have:=hfix j a;omega
      ·exact absurd a e
      ·exact a
     have e3:=h.swap (M:=λi j=>if i=f j then 1 else 0) (by omega:t<n) g zb (λi=>if i=f t then 1 else 0) (λi=>if i=f j then 1 else 0);have e4:(λi j=>if i=f j then(1:Rat) else 0)=zL (zL (λi j=>if i=f j then 1 else 0) t λi=>if i=f t then 1 else 0) j λi=>if i=f j then 1 else 0:=by
      funext i q
      unfold zL;by_cases q1:q=j
      ·rw [if_pos q1,q1]
      ·rw [if_neg q1];by_cases q2:q=t
       ·rw [if_pos q2,q2]
       ·rw [if_neg q2]
     rw [e4,e3];have e5:=h.units h1 d (t+1) zb (λq=>if q=t then t else if q=j then f t else f q) (λq hq=>by
      show(if q=t then t else if q=j then f t else f q)<n
      split
      ·omega
      ·split
       ·exact hf t zb
       ·exact hf q hq) (λq hq=>by
      show(if q=t then t else if q=j then f t else f q)=q;by_cases q1:q=t
      ·rw [if_pos q1,q1]
      ·rw [if_neg q1,if_neg zb];exact hfix q zb)
     have e6:(λi q=>if i=(if q=t then t else if q=j then f t else f q) then(1:Rat) else 0)=zL (zL (λi j=>if i=f j then 1 else 0) t λi=>if i=f j then 1 else 0) j λi=>if i=f t then 1 else 0:=by
      funext i q
      unfold zL;by_cases q1:q=j
      ·have hv:(if q=t then t else if q=j then f t else f q)=f t:=by rw [if_neg zb,if_pos q1]
       rw [hv,if_pos q1]
      ·by_cases q2:q=t
       ·have hv:(if q=t then t else if q=j then f t else f q)=t:=if_pos q2;rw [hv,if_neg q1,if_pos q2,c]
       ·have hv:(if q=t then t else if q=j then f t else f q)=f q:=by rw [if_neg q2,if_neg q1]
        rw [hv,if_neg q1,if_neg q2]
     rw [<-e6,e5,Rat.neg_zero]
   ·-- t is missing:two are equal
    have hd:∃k l,k<n/\l<n/\k≠l/\f k=f l:=by
     refine Classical.byContradiction λu=>?_;have o:((List.range n).map f++[t]).Nodup:=by
      rw [List.nodup_append];refine⟨?_,zE,λa ha b hb=>?_⟩
      ·rw [List.nodup_iff_pairwise_ne,List.pairwise_map];refine List.Pairwise.imp_of_mem (fun{a b} ha hb hab=>?_) (List.pairwise_lt_range (n:=n));exact λe=>u ⟨a,b,List.mem_range.1 ha,List.mem_range.1 hb,zb,e⟩
      ·obtain⟨q,hq,rfl⟩:=List.mem_map.1 ha;rw [List.mem_singleton.1 hb];exact λe=>hj ⟨q,List.mem_range.1 hq,e⟩
     have:=Vq (m:=n) o λx hx=>by
      rcases List.mem_append.1 hx with hx|hx
      ·obtain⟨q,hq,rfl⟩:=List.mem_map.1 hx;exact hf q (List.mem_range.1 hq)
      ·rw [List.mem_singleton.1 hx];omega
     rw [QV,xV,jJ] at this;simp at this;omega
    obtain⟨k,l,hk,hl,s,e⟩:=hd;exact h.same _ k l hk hl s λi _=>by
     show(if i=f k then(1:Rat) else 0)=if i=f l then 1 else 0
     rw [e]
theorem ua.all0 {F:(Nat->Nat->Rat)->Rat}(h:ua n F)(h1:F wD=0):∀(t:Nat),t<=n->∀(M:Nat->Nat->Rat) (f:Nat->Nat),(∀j,j<n->f j<n)->(∀j,t<=j->j<n->∀i,i<n->M i j=if i=f j then 1 else 0)->F M=0
 |0,_,M,f,hf,hM=>by
   rw [h.congr M (λi j=>if i=f j then 1 else 0) λi hi j hj=>hM j zb hj i hi];exact h.units h1 n 0 zb f hf λj hj=>absurd hj zb
 |t+1,ht,M,f,hf,hM=>by
   have e1:F M=F (zL M t λi=>zC n λl=>M l t*(λl i=>if i=l then(1:Rat) else 0) l i):=h.congr _ _ λi hi j hj=>by
    by_cases e:j=t
    ·rw [e,wV];exact(yt (f:=λl=>M l t*if i=l then(1:Rat) else 0) (g:=λl=>M l t*if l=i then 1 else 0) λl _=>by
      by_cases q:i=l
      ·rw [if_pos q,if_pos q.symm]
      ·rw [if_neg q,if_neg (Ne.symm q)]).trans (WI hi λl=>M l t)|>.symm
    ·rw [va _ e]
   rw [e1,h.sum M zb (λl=>M l t) (λl i=>if i=l then(1:Rat) else 0) n];refine tj λl hl=>?_;rw [h.all0 h1 t zb (zL M t λi=>if i=l then 1 else 0) (λj=>if j=t then l else f j) (λj hj=>by
    show(if j=t then l else f j)<n
    split
    ·exact hl
    ·exact hf j hj) λj h2 h3 i hi=>?_,xI]
   by_cases e:j=t
   ·rw [e,wV];show _=if i=(if t=t then l else f t) then(1:Rat) else 0
    rw [if_pos rfl]
   ·rw [va _ e];show _=if i=(if j=t then l else f j) then(1:Rat) else 0
    rw [if_neg e];exact hM j zb h3 i hi
theorem ua.one_ {F G:(Nat->Nat->Rat)->Rat}(h:ua n F)(k:ua n G)(M:Nat->Nat->Rat):F M*G wD=G M*F wD:=by
 have hs:ua n λM=>F M*G wD - G M*F wD:=⟨λM N e=>by
   show F M*G wD - G M*F wD=F N*G wD - G N*F wD;rw [h.congr M N e,k.congr M N e],λM q hq a b u v=>by
   show F _*G wD - G _*F wD=_;rw [h.lin M q hq,k.lin M q hq];grind,λM q l hq hl c e=>by
   show F M*G wD - G M*F wD=0;rw [h.same M q l hq hl c e,k.same M q l hq hl c e];grind⟩
 have:=hs.all0 (by show F wD*G wD - G wD*F wD=0;grind) n (qY _) M (λj=>j) (λj hj=>hj) λj h1 h2=>absurd h2 zb;have h2:F M*G wD - G M*F wD=0:=this
 grind
theorem aW:∀n,zI n wD=1
 |0=>rfl
 |n+1=>by
   rw [cV n λi hi=>by show(if i=n then(1:Rat) else 0)=0;rw [if_neg zb],aW n];show(if n=n then(1:Rat) else 0)*1=1;rw [if_pos rfl];decide+kernel
def vp (n:Nat)(A B:Nat->Nat->Rat):Nat->Nat->Rat:=λi j=>zC n λl=>A i l*B l j
theorem s8 (n:Nat)(A B:Nat->Nat->Rat):zI n (vp n A B)=zI n A*zI n B:=by
 have ha:ua n λM=>zI n (vp n A M):=⟨λM N e=>uq λi _ j hj=>yt λl hl=>by rw [e l hl j hj],λM k hk a b u v=>by
   show zI n _=_;have e:∀w:Nat->Rat,vp n A (zL M k w)=zL (vp n A M) k λi=>zC n λl=>A i l*w l:=λw=>by
    funext i j
    unfold vp;by_cases q:j=k
    ·rw [q,wV];exact yt λl _=>by rw [wV]
    ·rw [va _ q];exact yt λl _=>by rw [va _ q]
   rw [e,e,e];have e2:(λi=>zC n λl=>A i l*(a*u l+b*v l))=λi=>a*(λi=>zC n λl=>A i l*u l) i+b*(λi=>zC n λl=>A i l*v l) i:=by
    funext i
    show _=a*zC n _+b*zC n _;rw [wU,wU,<-sc];exact yt λl _=>by grind
   rw [e2,mU _ hk],λM k l hk hl c e=>(ua.det_ n).same _ k l hk hl c λi _=>yt λq hq=>by rw [e q hq]⟩
 have h1:=ha.one_ (ua.det_ n) B;rw [aW,Rat.mul_one] at h1;have e3:zI n (vp n A wD)=zI n A:=uq λi _ j hj=>by
  unfold vp wD;exact WI hj λl=>A i l
 have h2:zI n (vp n A B)=zI n B*zI n (vp n A wD):=h1;rw [h2,e3,YN]
