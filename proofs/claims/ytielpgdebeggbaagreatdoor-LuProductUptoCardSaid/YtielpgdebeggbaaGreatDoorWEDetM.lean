/- What this claim leans on. -/
import Derived.Test.YtielpgdebeggbaaGreatDoorWS8Sum
import Derived.Test.YtielpgdebeggbaaGreatDoorWJ8Mul
set_option linter.unusedVariables false
set_option linter.unusedSimpArgs false
namespace Go.Proofs.YtielpgdebeggbaaGreatDoor
open Go Go.RowKit Go.Proofs.Tryz
set_option maxHeartbeats 16000000
variable {xs:List Rat}{c k n:Nat}{w:World}{A:ze}
structure uw (n:Nat)(F:(Nat->Nat->Rat)->Rat):Prop where
 congr:∀M N:Nat->Nat->Rat,(∀i,i<n->∀j,j<n->M i j=N i j)->F M=F N
 lin:∀(M:Nat->Nat->Rat) (k:Nat),k<n->∀(a b:Rat) (u v:Nat->Rat),F (zL M k λi=>a*u i+b*v i)=a*F (zL M k u)+b*F (zL M k v)
 same:∀(M:Nat->Nat->Rat) (k l:Nat),k<n->l<n->k≠l->(∀i,i<n->M i k=M i l)->F M=0
theorem uw.det_ (n:Nat):uw n (zH n):=⟨λM N h=>uh h,λM k hk a b u v=>lB M hk a b u v,λM k l hk hl c h=>by
 rw [uh (N:=zL M k λi=>M i l) λi hi j _=>?_]
 ·exact gZ hk hl c
 ·by_cases e:j=k
  ·rw [e,vo];exact h i hi
  ·rw [vv _ e]⟩
theorem aW {M:Nat->Nat->Rat}{l:Nat}(h:k≠l)(u v:Nat->Rat):zL (zL M k u) l v=zL (zL M l v) k u:=by
 funext i j
 unfold zL;by_cases e:j=l
 ·rw [if_pos e,if_neg zb,if_pos e]
 ·rw [if_neg e,if_neg e]
theorem uw.swap {F:(Nat->Nat->Rat)->Rat}(h:uw n F){M:Nat->Nat->Rat}{k l:Nat}(hk:k<n)(hl:l<n)(c:k≠l)(u v:Nat->Rat):F (zL (zL M k u) l v)= -F (zL (zL M k v) l u):=by
 have same:∀w:Nat->Rat,F (zL (zL M k w) l w)=0:=λw=>h.same _ k l hk hl c λi _=>by
  rw [vo,vv _ c,vo]
 have e1:∀a b x y:Nat->Rat,F (zL (zL M k a) l λi=>1*x i+1*y i)=1*F (zL (zL M k a) l x)+1*F (zL (zL M k a) l y):=λa b x y=>h.lin _ l hl 1 1 x y;have e2:∀b x y:Nat->Rat,F (zL (zL M k λi=>1*x i+1*y i) l b)=1*F (zL (zL M k x) l b)+1*F (zL (zL M k y) l b):=λb x y=>by
  rw [aW c,aW c,aW c];exact h.lin _ k hk 1 1 x y
 have h1:=same λi=>1*u i+1*v i;rw [e1 _ u,e2,e2,same u,same v] at h1
 grind
theorem uw.sum {F:(Nat->Nat->Rat)->Rat}(h:uw n F)(M:Nat->Nat->Rat){k:Nat}(hk:k<n)(f:Nat->Rat)(u:Nat->Nat->Rat):∀q,F (zL M k λi=>zq q λl=>f l*u l i)=zq q λl=>f l*F (zL M k (u l))
 |0=>by
   have e:=h.lin M k hk 0 0 (λ_=>0) (λ_=>0);have e2:(zL M k λi=>zq 0 λl=>f l*u l i)=zL M k λi=>0*(λ_:Nat=>(0:Rat)) i+0*(λ_:Nat=>(0:Rat)) i:=by
    congr 1;funext i;show(0:Rat)=0*0+0*0;grind
   rw [e2,e];show _=(0:Rat);grind
 |q+1=>by
   have e2:(zL M k λi=>zq (q+1) λl=>f l*u l i)=zL M k λi=>1*(λi=>zq q λl=>f l*u l i) i+f q*u q i:=by
    congr 1;funext i;rw [xw];grind
   rw [e2,h.lin M k hk,h.sum M hk f u q,xw,XG]
theorem WR:∀{m:Nat} {L:List Nat},L.Nodup->(∀x ∈ L,x<m)->L.length<=m
 |0,L,_,h=>by
   cases L with
   |nil=>exact qX _
   |cons x xs=>exact absurd (h x xW) zb
 |m+1,L,hn,h=>by
   have h1:=WR (m:=m) (hn.erase m) λx hx=>by
    have h2:=hn.mem_erase_iff.1 hx;have:=h x h2.2;have:=h2.1;omega
   by_cases hm:m ∈ L
   ·rw [List.length_erase_of_mem hm] at h1;omega
   ·rw [List.erase_of_not_mem hm] at h1;omega
def wE:Nat->Nat->Rat:=λi j=>if i=j then 1 else 0
theorem uw.units {F:(Nat->Nat->Rat)->Rat}(h:uw n F)(h1:F wE=0):∀(d t:Nat),t+d=n->∀(f:Nat->Nat),(∀j,j<n->f j<n)->(∀j,j<t->f j=j)->F (λi j=>if i=f j then 1 else 0)=0
 |0,t,ht,f,hf,hfix=>by
   rw [h.congr _ wE λi _ j hj=>?_]
   ·exact h1
   ·show(if i=f j then(1:Rat) else 0)=if i=j then 1 else 0
    rw [hfix j zb]
 |d+1,t,ht,f,hf,hfix=>by
   by_cases hj:∃j,j<n/\f j=t
   ·obtain⟨j,g,c⟩:=hj;by_cases e:j=t
    ·exact h.units h1 d (t+1) zb f hf λq hq=>by
      by_cases e2:q=t
      ·rw [e2,<-e,c,e]
      ·exact hfix q zb
    ·have hjgt:t<j:=by
      rcases XK j t with a|a|a
      ·have:=hfix j a;omega
      ·exact absurd a e
      ·exact a
     have e3:=h.swap (M:=λi j=>if i=f j then 1 else 0) (by omega:t<n) g zb (λi=>if i=f t then 1 else 0) (λi=>if i=f j then 1 else 0);have e4:(λi j=>if i=f j then(1:Rat) else 0)=zL (zL (λi j=>if i=f j then 1 else 0) t λi=>if i=f t then 1 else 0) j λi=>if i=f j then 1 else 0:=by
      funext i q
      unfold zL;by_cases q1:q=j
      ·rw [if_pos q1,q1]
      ·rw [if_neg q1];by_cases q2:q=t
       ·rw [if_pos q2,q2]
       ·rw [if_neg q2]
     rw [e4,e3];have e5:=h.units h1 d (t+1) zb (λq=>if q=t then t else if q=j then f t else f q) (λq hq=>by
      show(if q=t then t else if q=j then f t else f q)<n
      split
      ·omega
      ·split
       ·exact hf t zb
       ·exact hf q hq) (λq hq=>by
      show(if q=t then t else if q=j then f t else f q)=q;by_cases q1:q=t
      ·rw [if_pos q1,q1]
      ·rw [if_neg q1,if_neg zb];exact hfix q zb)
     have e6:(λi q=>if i=(if q=t then t else if q=j then f t else f q) then(1:Rat) else 0)=zL (zL (λi j=>if i=f j then 1 else 0) t λi=>if i=f j then 1 else 0) j λi=>if i=f t then 1 else 0:=by
      funext i q
      unfold zL;by_cases q1:q=j
      ·have hv:(if q=t then t else if q=j then f t else f q)=f t:=by rw [if_neg zb,if_pos q1]
       rw [hv,if_pos q1]
      ·by_cases q2:q=t
       ·have hv:(if q=t then t else if q=j then f t else f q)=t:=if_pos q2;rw [hv,if_neg q1,if_pos q2,c]
       ·have hv:(if q=t then t else if q=j then f t else f q)=f q:=by rw [if_neg q2,if_neg q1]
        rw [hv,if_neg q1,if_neg q2]
     rw [<-e6,e5,Rat.neg_zero]
   ·-- t is missing:two are equal
    have hd:∃k l,k<n/\l<n/\k≠l/\f k=f l:=by
     refine Classical.byContradiction λu=>?_;have o:((List.range n).map f++[t]).Nodup:=by
      rw [List.nodup_append];refine⟨?_,zA,λa ha b hb=>?_⟩
      ·rw [List.nodup_iff_pairwise_ne,List.pairwise_map];refine List.Pairwise.imp_of_mem (fun{a b} ha hb hab=>?_) (List.pairwise_lt_range (n:=n));exact λe=>u ⟨a,b,List.mem_range.1 ha,List.mem_range.1 hb,zb,e⟩
      ·obtain⟨q,hq,rfl⟩:=List.mem_map.1 ha;rw [List.mem_singleton.1 hb];exact λe=>hj ⟨q,List.mem_range.1 hq,e⟩
     have:=WR (m:=n) o λx hx=>by
      rcases List.mem_append.1 hx with hx|hx
      ·obtain⟨q,hq,rfl⟩:=List.mem_map.1 hx;exact hf q (List.mem_range.1 hq)
      ·rw [List.mem_singleton.1 hx];omega
     rw [qB,QH,XJ] at this;simp at this;omega
    obtain⟨k,l,hk,hl,s,e⟩:=hd;exact h.same _ k l hk hl s λi _=>by
     show(if i=f k then(1:Rat) else 0)=if i=f l then 1 else 0
     rw [e]
theorem uw.all0 {F:(Nat->Nat->Rat)->Rat}(h:uw n F)(h1:F wE=0):∀(t:Nat),t<=n->∀(M:Nat->Nat->Rat) (f:Nat->Nat),(∀j,j<n->f j<n)->(∀j,t<=j->j<n->∀i,i<n->M i j=if i=f j then 1 else 0)->F M=0
 |0,_,M,f,hf,hM=>by
   rw [h.congr M (λi j=>if i=f j then 1 else 0) λi hi j hj=>hM j zb hj i hi];exact h.units h1 n 0 zb f hf λj hj=>absurd hj zb
 |t+1,ht,M,f,hf,hM=>by
   have e1:F M=F (zL M t λi=>zq n λl=>M l t*(λl i=>if i=l then(1:Rat) else 0) l i):=h.congr _ _ λi hi j hj=>by
    by_cases e:j=t
    ·rw [e,vo];exact(ya (f:=λl=>M l t*if i=l then(1:Rat) else 0) (g:=λl=>M l t*if l=i then 1 else 0) λl _=>by
      by_cases q:i=l
      ·rw [if_pos q,if_pos q.symm]
      ·rw [if_neg q,if_neg (Ne.symm q)]).trans (Qh hi λl=>M l t)|>.symm
    ·rw [vv _ e]
   rw [e1,h.sum M zb (λl=>M l t) (λl i=>if i=l then(1:Rat) else 0) n];refine uE λl hl=>?_;rw [h.all0 h1 t zb (zL M t λi=>if i=l then 1 else 0) (λj=>if j=t then l else f j) (λj hj=>by
    show(if j=t then l else f j)<n
    split
    ·exact hl
    ·exact hf j hj) λj h2 h3 i hi=>?_,xO]
   by_cases e:j=t
   ·rw [e,vo];show _=if i=(if t=t then l else f t) then(1:Rat) else 0
    rw [if_pos rfl]
   ·rw [vv _ e];show _=if i=(if j=t then l else f j) then(1:Rat) else 0
    rw [if_neg e];exact hM j zb h3 i hi
theorem uw.one_ {F G:(Nat->Nat->Rat)->Rat}(h:uw n F)(k:uw n G)(M:Nat->Nat->Rat):F M*G wE=G M*F wE:=by
 have hs:uw n λM=>F M*G wE - G M*F wE:=⟨λM N e=>by
   show F M*G wE - G M*F wE=F N*G wE - G N*F wE;rw [h.congr M N e,k.congr M N e],λM q hq a b u v=>by
   show F _*G wE - G _*F wE=_;rw [h.lin M q hq,k.lin M q hq];grind,λM q l hq hl c e=>by
   show F M*G wE - G M*F wE=0;rw [h.same M q l hq hl c e,k.same M q l hq hl c e];grind⟩
 have:=hs.all0 (by show F wE*G wE - G wE*F wE=0;grind) n (qX _) M (λj=>j) (λj hj=>hj) λj h1 h2=>absurd h2 zb;have h2:F M*G wE - G M*F wE=0:=this
 grind
theorem Zl:∀n,zH n wE=1
 |0=>rfl
 |n+1=>by
   rw [bP n λi hi=>by show(if i=n then(1:Rat) else 0)=0;rw [if_neg zb],Zl n];show(if n=n then(1:Rat) else 0)*1=1;rw [if_pos rfl];decide+kernel
set_option maxRecDepth 100000
theorem WK (f:Rat->Rat->Rat)(F:FuncId)(cap:Array Value)(xs ys:List Rat)(A B:ze)(n c d:Nat)(w:World)(ha:zR w A n c xs)(hb:zR w B n d ys)(hn:n<=1073741824)
  (hEn:∀(args:Array Value) (w':World),Sem.run prog (callFunc F args) w'=.ok (.enter F args) w')
  (hF : ∀ i,i < n → ∀ w',Below w.heap.size w w' → ∀ (b b' : Bool) (A A' : ze) (n n' c c' : Nat) (E E' : ze) (k k' f9 G : Nat),zo w' (xs.getD i 0) b A n c E k f9 → zo w' (ys.getD i 0) b' A' n' c' E' k' G →
    Calls prog F (#[.agg #[.bool b,.slice A n c,.slice E k f9],.agg #[.bool b',.slice A' n' c',.slice E' k' G]]++cap) w' (yi w' (f (xs.getD i 0) (ys.getD i 0)))):
  Calls prog 62 #[.slice A n c,.slice B n d,.func (.func F) #[] cap] w (uX w n (List.zipWith f xs ys)):=by
 have M:=ha.len;have N:=hb.len;have u:(List.zipWith f xs ys).length=n:=UC M N;unfold uX;have s:∀i,i<n->(List.zipWith f xs ys)[i]?=some (f (xs.getD i 0) (ys.getD i 0)):=λi hi=>by
  rw [List.getElem?_zipWith,qQ,qQ,qY zb,qY zb];rfl
 obtain⟨zs,Q⟩:∃zs,List.zipWith f xs ys=zs:=⟨_,rfl⟩;rw [Q] at s u⊢;have HG:=za s;have D:=za u;have HF:=za hF;have HA:=za ha;have S:=za hb;obtain⟨Z,hZ⟩:=oM n zb;have aa:=λW=>(hZ W).1;have m:=za (λW=>(hZ W).2);clear hF ha hb M N u Q s hZ;have hd0:((n:Int) !=(n:Int))=false:=zA;have i0:(0:Int)<=(n:Int):=zb;go_enter func62,ntmps62;go_wp2_with fail;clear aa;have a:=m.o w;have hB:Below w.heap.size w (w.alloc (.cells Z 52)):=(qZ _ w).alloc (qX _) _;obtain⟨gp,t⟩:∃g,w.heap.size=g:=⟨_,rfl⟩;have P:w.heap.size<=gp:=zb;have hz:gp+1<=(w.alloc (.cells Z 52)).heap.size:=by simp [t]
 rw [t] at a⊢;rw [<-tV 0 zs n] at a;generalize w.alloc (.cells Z 52)=W1 at*;clear t m
 go_loopg [21] (n+1) (λg ix wr=>∃(k:Nat),k<=n/\n<g+k/\ix=.int .i64 k/\yh wr gp n (wX 0 zs n k)/\Below w.heap.size w wr)
 case atStart=>exact⟨0,qW _,zb,rfl,a,hB⟩
 case round=>
  clear a hB hz;obtain⟨k,hkn,hg,rfl,a,hB⟩:=hrel;by_cases hlt:k<n
  ·obtain⟨ad,b1,B1,m1,d1,E1,u1,v1,rfl,-,U,V,X,hx⟩:=HA.o.get hB hlt;obtain⟨ae,b2,B2,m2,d2,E2,u2,v2,rfl,hae,I,J,L,hy⟩:=S.o.get hB hlt;have Y:decide ((k:Int)<(n:Int))=true:=by simp;omega
   have i1:(0:Int)<=(k:Int):=zb;have i2:(k:Int)<(n:Int):=zb;have hgr:=a.lt;obtain⟨st,d3,d4⟩:=zu wr 52 #[.bool b1,.slice B1 m1 d1,.slice E1 u1 v1];have C:=za d3;have HX:=za (hx.below st);have HY:=za (hy.below st);have o:=za (a.keep st);have j:=za (zc hB st);have HE:=za (And.intro (zv st I) (And.intro (zv st J) (zv st L)));clear hx hy a hB st d3 d4 I J L;go_wp2_with fail;clear U V X;generalize wr.alloc (.cells #[.bool b1,.slice B1 m1 d1,.slice E1 u1 v1] 52)=W2 at*;generalize wr.heap.size=gb at*;obtain⟨p0,p1,p2⟩:=C.o.c3;obtain⟨e0,e1,e2⟩:=HE.o;have h:=(qZ W2.heap.size W2).drew;have v:=mn (k:=k*3) (show ae.block≠gp by omega);refine rg (zk p0 (zk p1 (zk p2 (zk e0 (zk e1 (zk e2 zQ)))))) (λhHeld=>?_);refine tk 0 ?_;refine tk 1 ?_;refine tk 2 ?_;refine tk 3 ?_;refine tk 4 ?_;refine tk 5 ?_;refine tk 6 ?_;refine tk 7 ?_;refine rc 8 (λK hK=>?_);go_simp;refine(HF.o k hlt _ (zc j.o h) _ _ _ _ _ _ _ _ _ _ _ _ _ _ (HX.o.below h) (HY.o.below h)).mono ?_;rintro e w3 ⟨b3,A3,n3,c3,E3,k3,f3,rfl,O,hb⟩;have h:=zc h hb;refine hK.out _ _ (Cs.below hHeld hb) (λhHeld=>?_);clear hK K hb;refine tk 9 ?_;have y:=o.o.keep h;obtain⟨q0,q1,q2,ab,ag,ac,ah,af,ai⟩:=y.ready hlt (.bool b3) (.slice A3 n3 c3);refine rc 10 (λK hK=>?_);go_simp;have z:=wn.set_ zZ y hlt O;rw [tX 0 zs n k D.o hlt _ (HG.o k hlt)] at z;have H:=kX (k*3) (k*3+1) (k*3+2) (.bool b3) (.slice A3 n3 c3) (.slice E3 k3 f3) P (zc j.o h);refine hK.out _ _ (Cs.far hHeld (oq _ _ _ _ _ _ _ _) (by refine⟨?_,?_,?_,v,v,v,trivial⟩<;>(show gb≠gp;omega))) (λhHeld=>?_);clear hK K;refine zN ?_;have T:=za z;have R:=za H;clear z H y hHeld h O ab ag ac ah af ai p0 p1 p2 e0 e1 e2 C HX HY o j HE;go_wp2;go_roundg (n - k)
   case measure=>omega
   case rel=>exact⟨k+1,zb,zb,by go_num,T.o,R.o⟩
  ·have hk:k=n:=zb;subst hk;have Y:decide ((k:Int)<(k:Int))=false:=zA;have HR:=za (tW 0 zs k D.o▸a);have j:=za hB;clear a hB;go_wp2
   go_ret2
   exact⟨gp,rfl,P,HR.o,j.o⟩
theorem Pm (r:Rat)(s:Rat)(u:Bool)(o:ze)(j z:Nat)(D:ze)(B M:Nat)(y:Bool)(t:ze)(k A:Nat)(E:ze)(C N:Nat)(w:World)(hT:zt w)(J:zo w r u o j z D B M)(L:zo w s y t k A E C N)(ac:zU j B)(ad:zU k C)(v:Int)(hv:sj (r.num*((s.den:Nat):Int)) (s.num*((r.den:Nat):Int))=v):
  Calls prog 100 #[.agg #[.bool u,.slice o j z,.slice D B M],.agg #[.bool y,.slice t k A,.slice E C N]] w (vO w v):=by
 have ae:=za (va (T:=zt));have HT:=zj w (λw' hb=>hT.on hb);have HTB:=HT;obtain⟨K,S⟩:∃K,67108864=K:=⟨_,rfl⟩;have hKK:K<=67108864:=zb;have hK0:0<K:=zb;have HV:=za hv;have O:=zj w (λw' b=>J.below b);obtain⟨ah,Q,U⟩:=J.2;have m:zd (zn K r):=xg J ac S;have H:zd (Sz K r.num.natAbs):=m.o.num;have HZaaq:zd (Sz K ah):=xx m.o.den Q;have F:=zj w (λw' b=>J.1.below b);clear J ac Q U;have P:=zj w (λw' b=>L.below b);obtain⟨ai,R,V⟩:=L.2;have n:zd (zn K s):=xg L ad S;have I:zd (Sz K s.num.natAbs):=n.o.num;have HZabq:zd (Sz K ai):=xx n.o.den R;have G:=zj w (λw' b=>L.1.below b);clear L ad R V;clear hT S hv;go_enter func100,ntmps100;have hB:=qZ w.heap.size w;obtain⟨Z,aa,ab,bz⟩:=yz w 52 52 #[.bool u,.slice o j z,.slice D B M] #[.bool y,.slice t k A,.slice E C N];have hB:=zc hB Z;obtain⟨g1,e1,i1⟩:=aa.c3;obtain⟨g2,e2,i2⟩:=ab.c3;clear Z aa ab bz;go_wp2_with fail;generalize (w.alloc (.cells #[.bool u,.slice o j z,.slice D B M] 52)).alloc (.cells #[.bool y,.slice t k A,.slice E C N] 52)=W1 at*;have X:zd (Sz (K) (s.den)):=zn.den n.o;have C0:=zj W1 (λw' h=>kU (s) y t k A E C N w' (HT.o _ (zc hB h)) (P.o _ (zc hB h)) (szq n (P.o _ hB)));have af:zd (Sz (K+K) (r.num*((s.den:Nat):Int)).natAbs):=dF H.o X.o;have C1:=zj W1 (λw' h B3 m3 d3 (c:zp w' (s.den) B3 m3 d3)=>eN (r.num) (s.den) u o j z B3 m3 d3 w' (HT.o _ (zc hB h)) (F.o _ (zc hB h)) c (yw H (F.o _ hB)) (y5 X c));have Y:zd (Sz (K) (r.den)):=zn.den m.o;have C2:=zj W1 (λw' h=>kU (r) u o j z D B M w' (HT.o _ (zc hB h)) (O.o _ (zc hB h)) (szq m (O.o _ hB)));have ag:zd (Sz (K+K) (s.num*((r.den:Nat):Int)).natAbs):=dF I.o Y.o;have C3:=zj W1 (λw' h B5 m5 d5 (g:zp w' (r.den) B5 m5 d5)=>eN (s.num) (r.den) y t k A B5 m5 d5 w' (HT.o _ (zc hB h)) (G.o _ (zc hB h)) g (yw I (G.o _ hB)) (y5 Y g));have C4:=zj W1 (λw' h b4 B4 m4 d4 (d:yf w' (r.num*((s.den:Nat):Int)) b4 B4 m4 d4) b6 B6 m6 d6 (i:yf w' (s.num*((r.den:Nat):Int)) b6 B6 m6 d6)=>sB (v:=v) (HV.o) (ae.o.cmp (r.num*((s.den:Nat):Int)) (s.num*((r.den:Nat):Int)) b4 b6 B4 B6 m4 m6 d4 d6 w' (HT.o _ (zc hB h)) d i (yw af d) (yw ag i)));have a:=(qZ W1.heap.size W1).drew;refine rg (zk g1 (zk e1 (zk i1 (zk g2 (zk e2 (zk i2 zQ)))))) (λhHeld=>?_);refine tk 0 ?_;refine tk 1 ?_;refine tk 2 ?_;refine tk 5 ?_;refine tk 6 ?_;refine tk 7 ?_;refine rc 3 (λK hK=>?_);go_simp;go_at_call 96;(with_reducible refine(C0.o _ a).mono ?_);rintro e wa2 ⟨B3,m3,d3,rfl,c,hb⟩;have a:=zc a hb;refine hK.out _ _ (Cs.below hHeld hb) (λhHeld=>?_);clear hK K hb
 try simp only [yl]
 refine rc 4 (λK hK=>?_);go_simp;go_at_call 128;(with_reducible refine(C1.o _ a _ _ _ c).mono ?_);rintro e wa3 ⟨b4,B4,m4,d4,rfl,d,hb⟩;have a:=zc a hb;have c:=c.below hb;refine hK.out _ _ (Cs.below hHeld hb) (λhHeld=>?_);clear hK K hb
 try simp only [yl]
 refine rc 8 (λK hK=>?_);go_simp;go_at_call 96;(with_reducible refine(C2.o _ a).mono ?_);rintro e wa4 ⟨B5,m5,d5,rfl,g,hb⟩;have a:=zc a hb;have c:=c.below hb;have d:=d.below hb;refine hK.out _ _ (Cs.below hHeld hb) (λhHeld=>?_);clear hK K hb
 try simp only [yl]
 refine rc 9 (λK hK=>?_);go_simp;go_at_call 128;(with_reducible refine(C3.o _ a _ _ _ g).mono ?_);rintro e wa5 ⟨b6,B6,m6,d6,rfl,i,hb⟩;have a:=zc a hb;have c:=c.below hb;have d:=d.below hb;have g:=g.below hb;refine hK.out _ _ (Cs.below hHeld hb) (λhHeld=>?_);clear hK K hb
 try simp only [yl]
 refine rc 10 (λK hK=>?_);go_simp;go_at_call 54;(with_reducible refine(C4.o _ a _ _ _ _ d _ _ _ _ i).mono ?_);rintro e wa6 ⟨rfl,hb⟩;have a:=zc a hb;have c:=c.below hb;have d:=d.below hb;have g:=g.below hb;have i:=i.below hb;refine hK.out _ _ (Cs.below hHeld hb) (λhHeld=>?_);clear hK K hb
 try simp only [yl]
 refine tk 11 ?_;refine zN ?_;have hB:=zc hB a;obtain⟨g1,e1,i1,g2,e2,i2⟩:=yd a g1 e1 i1 g2 e2 i2;clear a hHeld c d g i C0 C1 C2 C3 C4;go_wp2;go_ret;exact⟨by first|rfl|simp,hB⟩
theorem UO (r s:Rat)(m:Bool)(h:ze)(a o:Nat)(j:ze)(d u:Nat)(n:Bool)(i:ze)(c t:Nat)(k:ze)(g v:Nat)(w:World)(hT:zt w)(y:zo w r m h a o j d u)(z:zo w s n i c t k g v)(A:zU a d)(B:zU c g):
  Calls prog 100 #[.agg #[.bool m,.slice h a o,.slice j d u],.agg #[.bool n,.slice i c t,.slice k g v]] w (vO w (uO r s)):=by
 exact Pm r s m h a o j d u n i c t k g v w hT y z A B (uO r s) (S3 r s).symm
theorem Ru (r:Rat)(s:Rat)(k:Bool)(g:ze)(a n:Nat)(y:ze)(t C:Nat)(m:Bool)(h:ze)(d o:Nat)(z:ze)(u D:Nat)(w:World)(hT:zt w)(A:zo w r k g a n y t C)(B:zo w s m h d o z u D)(R:zU a t)(S:zU d u)(h0:r.num≠s.num):
  Calls prog 33 #[.agg #[.bool k,.slice g a n,.slice y t C],.agg #[.bool m,.slice h d o,.slice z u D]] w (λe w'=>e=.returned (.bool false)/\Below w.heap.size w w'):=by
 have U:=za (va (T:=zt));have HT:=zj w (λw' hb=>hT.on hb);have HTB:=HT;obtain⟨K,L⟩:∃K,67108864=K:=⟨_,rfl⟩;have hKK:K<=67108864:=zb;have hK0:0<K:=zb;obtain⟨c,hc⟩:∃c,sj r.num s.num=c:=⟨_,rfl⟩;have HC:=za hc;have kb1:(c==0)=false:=by
  rw [beq_eq_false_iff_ne];intro h9;rw [h9] at hc;exact h0 ((dR _ _).1 hc)
 clear hc;obtain⟨V,G,M⟩:=A.2;have E:zd (zn K r):=xg A R L;have I:zd (Sz K r.num.natAbs):=E.o.num;have HZaaq:zd (Sz K V):=xx E.o.den G;have i:=zj w (λw' b=>A.1.below b);clear A R G M;obtain⟨X,H,N⟩:=B.2;have F:zd (zn K s):=xg B S L;have J:zd (Sz K s.num.natAbs):=F.o.num;have HZabq:zd (Sz K X):=xx F.o.den H;have j:=zj w (λw' b=>B.1.below b);clear B S H N;clear hT L h0;go_enter func33,ntmps33;have hB:=qZ w.heap.size w;obtain⟨O,P,Q,bz⟩:=yz w 52 52 #[.bool k,.slice g a n,.slice y t C] #[.bool m,.slice h d o,.slice z u D];have hB:=zc hB O;obtain⟨g1,e1,i1⟩:=P.c3;obtain⟨g2,e2,i2⟩:=Q.c3;clear O P Q bz;go_wp2_with fail;generalize (w.alloc (.cells #[.bool k,.slice g a n,.slice y t C] 52)).alloc (.cells #[.bool m,.slice h d o,.slice z u D] 52)=W1 at*;(with_reducible refine(sB (v:=c) (HC.o) (U.o.cmp (r.num) (s.num) k m g h a d n o _ (HT.o _ hB) (i.o _ hB) (j.o _ hB) (yw I (i.o _ hB)) (yw J (j.o _ hB)))).mono ?_);rintro e wc2 ⟨rfl,hb⟩;have hB:=zc hB hb;obtain⟨g1,e1,i1,g2,e2,i2⟩:=yd hb g1 e1 i1 g2 e2 i2;clear hb ;go_wp2;go_ret;exact⟨by first|rfl|simp,hB⟩
theorem Rv (r:Rat)(s:Rat)(y:Bool)(i:ze)(a A:Nat)(k:ze)(g G:Nat)(z:Bool)(j:ze)(d B:Nat)(m:ze)(h H:Nat)(w:World)(hT:zt w)(L:zo w r y i a A k g G)(M:zo w s z j d B m h H)(ac:zU a g)(ad:zU d h)(h0:r.num=s.num)(h1:r.den≠s.den):
  Calls prog 33 #[.agg #[.bool y,.slice i a A,.slice k g G],.agg #[.bool z,.slice j d B,.slice m h H]] w (λe w'=>e=.returned (.bool false)/\Below w.heap.size w w'):=by
 have af:=za (va (T:=zt));have HT:=zj w (λw' hb=>hT.on hb);have HTB:=HT;obtain⟨K,U⟩:∃K,67108864=K:=⟨_,rfl⟩;have hKK:K<=67108864:=zb;have hK0:0<K:=zb;obtain⟨I,C,E⟩:=L.2;have V:=za C;have N:zd (zn K r):=xg L ac U;have P:zd (Sz K r.num.natAbs):=N.o.num;have Q:zd (Sz K I):=xx N.o.den C;have n:=zj w (λw' b=>L.1.below b);have o:=zj w (λw' b=>E.below b);clear L ac C E;obtain⟨J,D,F⟩:=M.2;have X:=za D;have O:zd (zn K s):=xg M ad U;have R:zd (Sz K s.num.natAbs):=O.o.num;have S:zd (Sz K J):=xx O.o.den D;have t:=zj w (λw' b=>M.1.below b);have u:=zj w (λw' b=>F.below b);clear M ad D F;have ae:zd (sj r.num s.num=0):=(dR _ _).2 h0;have ab:I≠J:=λh9=>h1 (by rw [V.o.1,X.o.1,h9]);obtain⟨c,hc⟩:∃c,x4 I J=c:=⟨_,rfl⟩;have HC:=za hc;have kb1:(c==0)=false:=by
  rw [beq_eq_false_iff_ne];intro h9;rw [h9] at hc;rcases XK I J with h8|h8|h8
  ·rw [lJ h8] at hc;omega
  ·exact ab h8
  ·rw [jk h8] at hc;omega
 clear hc;clear ab;clear hT U h0 h1;go_enter func33,ntmps33;have hB:=qZ w.heap.size w;obtain⟨Y,Z,aa,bz⟩:=yz w 52 52 #[.bool y,.slice i a A,.slice k g G] #[.bool z,.slice j d B,.slice m h H];have hB:=zc hB Y;obtain⟨g1,e1,i1⟩:=Z.c3;obtain⟨g2,e2,i2⟩:=aa.c3;clear Y Z aa bz;go_wp2_with fail;generalize (w.alloc (.cells #[.bool y,.slice i a A,.slice k g G] 52)).alloc (.cells #[.bool z,.slice j d B,.slice m h H] 52)=W1 at*;(with_reducible refine(sB (v:=0) (ae.o) (af.o.cmp (r.num) (s.num) y z i j a d A B _ (HT.o _ hB) (n.o _ hB) (t.o _ hB) (yw P (n.o _ hB)) (yw R (t.o _ hB)))).mono ?_);rintro e wc2 ⟨rfl,hb⟩;have hB:=zc hB hb;obtain⟨g1,e1,i1,g2,e2,i2⟩:=yd hb g1 e1 i1 g2 e2 i2;clear hb ;go_wp2_with fail;(with_reducible refine(sB (v:=c) (HC.o) (jn (I) (J) k m g h G H _ (o.o _ hB) (u.o _ hB) (y5 Q (o.o _ hB)) (y5 S (u.o _ hB)))).mono ?_);rintro e wc3 ⟨rfl,hb⟩;have hB:=zc hB hb;obtain⟨g1,e1,i1,g2,e2,i2⟩:=yd hb g1 e1 i1 g2 e2 i2;clear hb ;go_wp2;go_ret;exact⟨by first|rfl|simp,hB⟩
theorem Rw (r:Rat)(s:Rat)(u:Bool)(h:ze)(a z:Nat)(j:ze)(d F:Nat)(y:Bool)(i:ze)(c A:Nat)(k:ze)(g G:Nat)(w:World)(hT:zt w)(H:zo w r u h a z j d F)(I:zo w s y i c A k g G)(aa:zU a d)(ab:zU c g)(h0:r.num=s.num)(h1:r.den=s.den):
  Calls prog 33 #[.agg #[.bool u,.slice h a z,.slice j d F],.agg #[.bool y,.slice i c A,.slice k g G]] w (λe w'=>e=.returned (.bool true)/\Below w.heap.size w w'):=by
 have ae:=za (va (T:=zt));have HT:=zj w (λw' hb=>hT.on hb);have HTB:=HT;obtain⟨K,V⟩:∃K,67108864=K:=⟨_,rfl⟩;have hKK:K<=67108864:=zb;have hK0:0<K:=zb;obtain⟨J,B,D⟩:=H.2;have M:=za B;have O:zd (zn K r):=xg H aa V;have Q:zd (Sz K r.num.natAbs):=O.o.num;have R:zd (Sz K J):=xx O.o.den B;have m:=zj w (λw' b=>H.1.below b);have n:=zj w (λw' b=>D.below b);clear H aa B D;obtain⟨L,C,E⟩:=I.2;have N:=za C;have P:zd (zn K s):=xg I ab V;have S:zd (Sz K s.num.natAbs):=P.o.num;have U:zd (Sz K L):=xx P.o.den C;have o:=zj w (λw' b=>I.1.below b);have t:=zj w (λw' b=>E.below b);clear I ab C E;have ac:zd (sj r.num s.num=0):=(dR _ _).2 h0;have ad:zd (x4 J L=0):=by
  have e:J=L:=by
   by_cases h9:r.den=1
   ·rw [aM M.o h9,aM N.o (h1▸h9)]
   ·rw [(fR M.o h9).2,(fR N.o (h1▸h9)).2,h1]
  show _=_;rw [e];exact ik rfl
 clear hT V h0 h1;go_enter func33,ntmps33;have hB:=qZ w.heap.size w;obtain⟨X,Y,Z,bz⟩:=yz w 52 52 #[.bool u,.slice h a z,.slice j d F] #[.bool y,.slice i c A,.slice k g G];have hB:=zc hB X;obtain⟨g1,e1,i1⟩:=Y.c3;obtain⟨g2,e2,i2⟩:=Z.c3;clear X Y Z bz;go_wp2_with fail;generalize (w.alloc (.cells #[.bool u,.slice h a z,.slice j d F] 52)).alloc (.cells #[.bool y,.slice i c A,.slice k g G] 52)=W1 at*;(with_reducible refine(sB (v:=0) (ac.o) (ae.o.cmp (r.num) (s.num) u y h i a c z A _ (HT.o _ hB) (m.o _ hB) (o.o _ hB) (yw Q (m.o _ hB)) (yw S (o.o _ hB)))).mono ?_);rintro e wc2 ⟨rfl,hb⟩;have hB:=zc hB hb;obtain⟨g1,e1,i1,g2,e2,i2⟩:=yd hb g1 e1 i1 g2 e2 i2;clear hb ;go_wp2_with fail;(with_reducible refine(sB (v:=0) (ad.o) (jn (J) (L) j k d g F G _ (n.o _ hB) (t.o _ hB) (y5 R (n.o _ hB)) (y5 U (t.o _ hB)))).mono ?_);rintro e wc3 ⟨rfl,hb⟩;have hB:=zc hB hb;obtain⟨g1,e1,i1,g2,e2,i2⟩:=yd hb g1 e1 i1 g2 e2 i2;clear hb ;go_wp2;go_ret;exact⟨by first|rfl|simp,hB⟩
theorem VL (r s:Rat)(m:Bool)(h:ze)(a o:Nat)(j:ze)(d u:Nat)(n:Bool)(i:ze)(c t:Nat)(k:ze)(g v:Nat)(w:World)(hT:zt w)(y:zo w r m h a o j d u)(z:zo w s n i c t k g v)(A:zU a d)(B:zU c g):
  Calls prog 33 #[.agg #[.bool m,.slice h a o,.slice j d u],.agg #[.bool n,.slice i c t,.slice k g v]] w (λe w'=>e=.returned (.bool (decide (r=s)))/\Below w.heap.size w w'):=by
 by_cases h0:r.num=s.num
 ·by_cases h1:r.den=s.den
  ·rw [decide_eq_true (Rat.ext h0 h1)];exact Rw r s m h a o j d u n i c t k g v w hT y z A B h0 h1
  ·rw [decide_eq_false (λh9=>h1 (by rw [h9]))];exact Rv r s m h a o j d u n i c t k g v w hT y z A B h0 h1
 ·rw [decide_eq_false (λh9=>h0 (by rw [h9]))];exact Ru r s m h a o j d u n i c t k g v w hT y z A B h0
section
variable {K K':Nat}{x y:Rat}{b b':Bool}{A A':ze}{n n' c c':Nat}{E E':ze}{k k' f f':Nat}{w:World}
theorem gi (hT:zt w)(h:zo w x b A n c E k f)(h':zo w y b' A' n' c' E' k' f')(z:zn K x)(z':zn K' y)(hK:K<=67108864:=by omega)(a:K'<=67108864:=by omega):
  Calls prog 64 #[.agg #[.bool b,.slice A n c,.slice E k f],.agg #[.bool b',.slice A' n' c',.slice E' k' f']] w (yi w (x+y)):=cE x y b A n c E k f b' A' n' c' E' k' f' w hT h h' (z.fit h hK) (z'.fit h' a)
theorem gn (hT:zt w)(h:zo w x b A n c E k f)(h':zo w y b' A' n' c' E' k' f')(z:zn K x)(z':zn K' y)(hK:K<=67108864:=by omega)(a:K'<=67108864:=by omega):
  Calls prog 115 #[.agg #[.bool b,.slice A n c,.slice E k f],.agg #[.bool b',.slice A' n' c',.slice E' k' f']] w (yi w (x - y)):=US x y b A n c E k f b' A' n' c' E' k' f' w hT h h' (z.fit h hK) (z'.fit h' a)
theorem vP (hT:zt w)(h:zo w x b A n c E k f)(h':zo w y b' A' n' c' E' k' f')(z:zn K x)(z':zn K' y)(hK:K<=67108864:=by omega)(a:K'<=67108864:=by omega):
  Calls prog 44 #[.agg #[.bool b,.slice A n c,.slice E k f],.agg #[.bool b',.slice A' n' c',.slice E' k' f']] w (yi w (x*y)):=UP x y b A n c E k f b' A' n' c' E' k' f' w hT h h' (z.fit h hK) (z'.fit h' a)
theorem gj (hT:zt w)(h:zo w x b A n c E k f)(h':zo w y b' A' n' c' E' k' f')(z:zn K x)(z':zn K' y)(hK:K<=67108864:=by omega)(a:K'<=67108864:=by omega):
  Calls prog 100 #[.agg #[.bool b,.slice A n c,.slice E k f],.agg #[.bool b',.slice A' n' c',.slice E' k' f']] w (vO w (uO x y)):=UO x y b A n c E k f b' A' n' c' E' k' f' w hT h h' (z.fit h hK) (z'.fit h' a)
theorem pt {t:Bool}(e:decide (x=y)=t)(hT:zt w)(h:zo w x b A n c E k f)(h':zo w y b' A' n' c' E' k' f')(z:zn K x)(z':zn K' y)(hK:K<=67108864:=by omega)(a:K'<=67108864:=by omega):
  Calls prog 33 #[.agg #[.bool b,.slice A n c,.slice E k f],.agg #[.bool b',.slice A' n' c',.slice E' k' f']] w (λe w'=>e=.returned (.bool t)/\Below w.heap.size w w'):=wt e (VL x y b A n c E k f b' A' n' c' E' k' f' w hT h h' (z.fit h hK) (z'.fit h' a))
theorem iu {t:Bool}(e:decide (x=0)=t)(hT:zt w)(h:zo w x b A n c E k f)(z:zn K x)(hK:K<=67108864:=by omega):
  Calls prog 20 #[.agg #[.bool b,.slice A n c,.slice E k f]] w (λe w'=>e=.returned (.bool t)/\Below w.heap.size w w'):=wt e (uU x b A n c E k f w hT h (z.fit h hK))
end
theorem kf:∀(args:Array Value) (w':World),Sem.run prog (callFunc 44 args) w'=.ok (.enter 44 args) w':=Go.Proofs.enters_of func44 ye rfl
theorem nB:∀(args:Array Value) (w':World),Sem.run prog (callFunc 63 args) w'=.ok (.enter 63 args) w':=Go.Proofs.enters_of func63 ye rfl
theorem zR.rats (h:zR w A n c xs):fF w A n c xs:=⟨h.len,h.fits,h.most,λi hi=>h.at_ hi 0⟩
theorem pO (rs:List Rat):sR rs=um rs:=rfl
theorem pu {K:Nat}(hT:zt w)(h:zR w A n c xs)(hx:zE K xs)(hn:n<=1073741824)(hK:1+n*(K+1)<=67108864):
  Calls prog 59 #[.slice A n c] w (yi w (um xs)):=by
 have hl:=h.len;have e:=pO xs;rw [<-e];refine mu xs A n c (1+n*(K+1)) w hT h.rats hn hK (λi hi=>(hx.at_ zb).up ?_) (λk hk=>?_)
 ·have:K+1<=n*(K+1):=Nat.le_mul_of_pos_left _ zb;omega
 ·rw [pO];exact mI hx hl k hk
theorem Ud {g:Nat}{t:TypeId}{x:Rat}{b:Bool}{E:ze}{f:Nat}(h:zh w g t #[.bool b,.slice A n c,.slice E k f])(hx:zo w x b A n c E k f):zR w (some ⟨g,0,none⟩) 1 1 [x]:=
 ⟨rfl,qX _,zf,λi y hi=>by
  have h0:i=0:=by
   have:=(List.getElem?_eq_some_iff.1 hi).1;simpa using this
  subst h0;obtain rfl:x=y:=by simpa using hi
  exact⟨_,b,A,n,c,E,k,f,rfl,h.lt,by rw [xk];exact h.cell 0,by rw [xk];exact h.cell 1,by rw [xk];exact h.cell 2,hx⟩⟩
