/- What this claim leans on. -/
import Derived.Test.YtkcjgcflloldoaaGreatDoorPEList
import Derived.Test.YtkcjgcflloldoaaGreatDoorPR8Ref
set_option linter.unusedVariables false
set_option linter.unusedSimpArgs false
namespace Go.Proofs.YtkcjgcflloldoaaGreatDoor
open Go Go.RowKit Go.Proofs.Tryz
set_option maxHeartbeats 16000000
variable {p z:Int}{L:List (Int×Int)}{xs:List Rat}{c k m n:Nat}{w:World}{A:ze}
structure uS (n:Nat)(F:(Nat->Nat->Rat)->Rat):Prop where
 congr:∀M N:Nat->Nat->Rat,(∀i,i<n->∀j,j<n->M i j=N i j)->F M=F N
 lin:∀(M:Nat->Nat->Rat) (k:Nat),k<n->∀(a b:Rat) (u v:Nat->Rat),F (zP M k λi=>a*u i+b*v i)=a*F (zP M k u)+b*F (zP M k v)
 same:∀(M:Nat->Nat->Rat) (k l:Nat),k<n->l<n->k≠l->(∀i,i<n->M i k=M i l)->F M=0
theorem uS.det_ (n:Nat):uS n (zD n):=⟨λM N h=>uz h,λM k hk a b u v=>jh M hk a b u v,λM k l hk hl c h=>by
 rw [uz (N:=zP M k λi=>M i l) λi hi j _=>?_]
 ·exact dL hk hl c
 ·by_cases e:j=k
  ·rw [e,vJ];exact h i hi
  ·rw [vS _ e]⟩
theorem Y0 {M:Nat->Nat->Rat}{l:Nat}(h:k≠l)(u v:Nat->Rat):zP (zP M k u) l v=zP (zP M l v) k u:=by
 funext i j
 unfold zP;by_cases e:j=l
 ·rw [if_pos e,if_neg za,if_pos e]
 ·rw [if_neg e,if_neg e]
theorem uS.swap {F:(Nat->Nat->Rat)->Rat}(h:uS n F){M:Nat->Nat->Rat}{k l:Nat}(hk:k<n)(hl:l<n)(c:k≠l)(u v:Nat->Rat):F (zP (zP M k u) l v)= -F (zP (zP M k v) l u):=by
 have same:∀w:Nat->Rat,F (zP (zP M k w) l w)=0:=λw=>h.same _ k l hk hl c λi _=>by
  rw [vJ,vS _ c,vJ]
 have e1:∀a b x y:Nat->Rat,F (zP (zP M k a) l λi=>1*x i+1*y i)=1*F (zP (zP M k a) l x)+1*F (zP (zP M k a) l y):=λa b x y=>h.lin _ l hl 1 1 x y;have e2:∀b x y:Nat->Rat,F (zP (zP M k λi=>1*x i+1*y i) l b)=1*F (zP (zP M k x) l b)+1*F (zP (zP M k y) l b):=λb x y=>by
  rw [Y0 c,Y0 c,Y0 c];exact h.lin _ k hk 1 1 x y
 have h1:=same λi=>1*u i+1*v i;rw [e1 _ u,e2,e2,same u,same v] at h1
 grind
theorem uS.sum {F:(Nat->Nat->Rat)->Rat}(h:uS n F)(M:Nat->Nat->Rat){k:Nat}(hk:k<n)(f:Nat->Rat)(u:Nat->Nat->Rat):∀q,F (zP M k λi=>zv q λl=>f l*u l i)=zv q λl=>f l*F (zP M k (u l))
 |0=>by
   have e:=h.lin M k hk 0 0 (λ_=>0) (λ_=>0);have e2:(zP M k λi=>zv 0 λl=>f l*u l i)=zP M k λi=>0*(λ_:Nat=>(0:Rat)) i+0*(λ_:Nat=>(0:Rat)) i:=by
    congr 1;funext i;show(0:Rat)=0*0+0*0;grind
   rw [e2,e];show _=(0:Rat);grind
 |q+1=>by
   have e2:(zP M k λi=>zv (q+1) λl=>f l*u l i)=zP M k λi=>1*(λi=>zv q λl=>f l*u l i) i+f q*u q i:=by
    congr 1;funext i;rw [xz];grind
   rw [e2,h.lin M k hk,h.sum M hk f u q,xz,XD]
theorem U7:∀{m:Nat} {L:List Nat},L.Nodup->(∀x ∈ L,x<m)->L.length<=m
 |0,L,_,h=>by
   cases L with
   |nil=>exact qX _
   |cons x xs=>exact absurd (h x XK) za
 |m+1,L,hn,h=>by
   have h1:=U7 (m:=m) (hn.erase m) λx hx=>by
    have h2:=hn.mem_erase_iff.1 hx;have:=h x h2.2;have:=h2.1;omega
   by_cases hm:m ∈ L
   ·rw [List.length_erase_of_mem hm] at h1;omega
   ·rw [List.erase_of_not_mem hm] at h1;omega
def wS:Nat->Nat->Rat:=λi j=>if i=j then 1 else 0
theorem uS.units {F:(Nat->Nat->Rat)->Rat}(h:uS n F)(h1:F wS=0):∀(d t:Nat),t+d=n->∀(f:Nat->Nat),(∀j,j<n->f j<n)->(∀j,j<t->f j=j)->F (λi j=>if i=f j then 1 else 0)=0
 |0,t,ht,f,hf,hfix=>by
   rw [h.congr _ wS λi _ j hj=>?_]
   ·exact h1
   ·show(if i=f j then(1:Rat) else 0)=if i=j then 1 else 0
    rw [hfix j za]
 |d+1,t,ht,f,hf,hfix=>by
   by_cases hj:∃j,j<n/\f j=t
   ·obtain⟨j,g,c⟩:=hj;by_cases e:j=t
    ·exact h.units h1 d (t+1) za f hf λq hq=>by
      by_cases e2:q=t
      ·rw [e2,<-e,c,e]
      ·exact hfix q za
    ·have hjgt:t<j:=by
      rcases XV j t with a|a|a
      ·have:=hfix j a;omega
      ·exact absurd a e
      ·exact a
     have e3:=h.swap (M:=λi j=>if i=f j then 1 else 0) (by omega:t<n) g za (λi=>if i=f t then 1 else 0) (λi=>if i=f j then 1 else 0);have e4:(λi j=>if i=f j then(1:Rat) else 0)=zP (zP (λi j=>if i=f j then 1 else 0) t λi=>if i=f t then 1 else 0) j λi=>if i=f j then 1 else 0:=by
      funext i q
      unfold zP;by_cases q1:q=j
      ·rw [if_pos q1,q1]
      ·rw [if_neg q1];by_cases q2:q=t
       ·rw [if_pos q2,q2]
       ·rw [if_neg q2]
     rw [e4,e3];have e5:=h.units h1 d (t+1) za (λq=>if q=t then t else if q=j then f t else f q) (λq hq=>by
      show(if q=t then t else if q=j then f t else f q)<n
      split
      ·omega
      ·split
       ·exact hf t za
       ·exact hf q hq) (λq hq=>by
      show(if q=t then t else if q=j then f t else f q)=q;by_cases q1:q=t
      ·rw [if_pos q1,q1]
      ·rw [if_neg q1,if_neg za];exact hfix q za)
     have e6:(λi q=>if i=(if q=t then t else if q=j then f t else f q) then(1:Rat) else 0)=zP (zP (λi j=>if i=f j then 1 else 0) t λi=>if i=f j then 1 else 0) j λi=>if i=f t then 1 else 0:=by
      funext i q
      unfold zP;by_cases q1:q=j
      ·have hv:(if q=t then t else if q=j then f t else f q)=f t:=by rw [if_neg za,if_pos q1]
       rw [hv,if_pos q1]
      ·by_cases q2:q=t
       ·have hv:(if q=t then t else if q=j then f t else f q)=t:=if_pos q2;rw [hv,if_neg q1,if_pos q2,c]
       ·have hv:(if q=t then t else if q=j then f t else f q)=f q:=by rw [if_neg q2,if_neg q1]
        rw [hv,if_neg q1,if_neg q2]
     rw [<-e6,e5,Rat.neg_zero]
   ·-- t is missing:two are equal
    have hd:∃k l,k<n/\l<n/\k≠l/\f k=f l:=by
     refine Classical.byContradiction λu=>?_;have o:((List.range n).map f++[t]).Nodup:=by
      rw [List.nodup_append];refine⟨?_,zG,λa ha b hb=>?_⟩
      ·rw [List.nodup_iff_pairwise_ne,List.pairwise_map];refine List.Pairwise.imp_of_mem (fun{a b} ha hb hab=>?_) (List.pairwise_lt_range (n:=n));exact λe=>u ⟨a,b,List.mem_range.1 ha,List.mem_range.1 hb,za,e⟩
      ·obtain⟨q,hq,rfl⟩:=List.mem_map.1 ha;rw [List.mem_singleton.1 hb];exact λe=>hj ⟨q,List.mem_range.1 hq,e⟩
     have:=U7 (m:=n) o λx hx=>by
      rcases List.mem_append.1 hx with hx|hx
      ·obtain⟨q,hq,rfl⟩:=List.mem_map.1 hx;exact hf q (List.mem_range.1 hq)
      ·rw [List.mem_singleton.1 hx];omega
     rw [qT,QP,XS] at this;simp at this;omega
    obtain⟨k,l,hk,hl,s,e⟩:=hd;exact h.same _ k l hk hl s λi _=>by
     show(if i=f k then(1:Rat) else 0)=if i=f l then 1 else 0
     rw [e]
theorem uS.all0 {F:(Nat->Nat->Rat)->Rat}(h:uS n F)(h1:F wS=0):∀(t:Nat),t<=n->∀(M:Nat->Nat->Rat) (f:Nat->Nat),(∀j,j<n->f j<n)->(∀j,t<=j->j<n->∀i,i<n->M i j=if i=f j then 1 else 0)->F M=0
 |0,_,M,f,hf,hM=>by
   rw [h.congr M (λi j=>if i=f j then 1 else 0) λi hi j hj=>hM j za hj i hi];exact h.units h1 n 0 za f hf λj hj=>absurd hj za
 |t+1,ht,M,f,hf,hM=>by
   have e1:F M=F (zP M t λi=>zv n λl=>M l t*(λl i=>if i=l then(1:Rat) else 0) l i):=h.congr _ _ λi hi j hj=>by
    by_cases e:j=t
    ·rw [e,vJ];exact(yj (f:=λl=>M l t*if i=l then(1:Rat) else 0) (g:=λl=>M l t*if l=i then 1 else 0) λl _=>by
      by_cases q:i=l
      ·rw [if_pos q,if_pos q.symm]
      ·rw [if_neg q,if_neg (Ne.symm q)]).trans (NV hi λl=>M l t)|>.symm
    ·rw [vS _ e]
   rw [e1,h.sum M za (λl=>M l t) (λl i=>if i=l then(1:Rat) else 0) n];refine u3 λl hl=>?_;rw [h.all0 h1 t za (zP M t λi=>if i=l then 1 else 0) (λj=>if j=t then l else f j) (λj hj=>by
    show(if j=t then l else f j)<n
    split
    ·exact hl
    ·exact hf j hj) λj h2 h3 i hi=>?_,XQ]
   by_cases e:j=t
   ·rw [e,vJ];show _=if i=(if t=t then l else f t) then(1:Rat) else 0
    rw [if_pos rfl]
   ·rw [vS _ e];show _=if i=(if j=t then l else f j) then(1:Rat) else 0
    rw [if_neg e];exact hM j za h3 i hi
theorem uS.one_ {F G:(Nat->Nat->Rat)->Rat}(h:uS n F)(k:uS n G)(M:Nat->Nat->Rat):F M*G wS=G M*F wS:=by
 have hs:uS n λM=>F M*G wS - G M*F wS:=⟨λM N e=>by
   show F M*G wS - G M*F wS=F N*G wS - G N*F wS;rw [h.congr M N e,k.congr M N e],λM q hq a b u v=>by
   show F _*G wS - G _*F wS=_;rw [h.lin M q hq,k.lin M q hq];grind,λM q l hq hl c e=>by
   show F M*G wS - G M*F wS=0;rw [h.same M q l hq hl c e,k.same M q l hq hl c e];grind⟩
 have:=hs.all0 (by show F wS*G wS - G wS*F wS=0;grind) n (qX _) M (λj=>j) (λj hj=>hj) λj h1 h2=>absurd h2 za;have h2:F M*G wS - G M*F wS=0:=this
 grind
theorem Xm:∀n,zD n wS=1
 |0=>rfl
 |n+1=>by
   rw [Ye n λi hi=>by show(if i=n then(1:Rat) else 0)=0;rw [if_neg za],Xm n];show(if n=n then(1:Rat) else 0)*1=1;rw [if_pos rfl];decide+kernel
set_option maxRecDepth 100000
theorem Qe (hT:zu w)(hp:wv p):
  Calls prog 82 #[.agg #[.int .i64 p,.int .i64 0]] w (yp w (tB p 0)):=by
 rw [T9];obtain⟨j,k⟩:=hp;have HT:=zj w (λw' hb=>hT.on hb);obtain⟨c,d,g,bz⟩:=z8 w 117 54 #[.int .i64 p,.int .i64 0] #[.bool false,.slice none 0 0,.slice none 0 0];obtain⟨g0,g1⟩:=d.c2;have HB:=zb c;have HK:=zb g;clear hT c d g bz;go_enter func82,ntmps82;go_wp2_with fail;clear g0 g1;(with_reducible refine(fz p _ (HT.o _ HB.o) j k).mono ?_);rintro e w2 ⟨b2,A2,n2,c2,E2,k2,f2,rfl,i,hb⟩;have a:=zg hb HK.o;obtain⟨sc0,sf0,sc1,sf1,sc2,sf2⟩:=yf a (.bool b2) (.slice A2 n2 c2);obtain⟨r0,r1,r2⟩:=(ym a (.bool b2) (.slice A2 n2 c2) (.slice E2 k2 f2)).c3;have HG:=zb (vp i a (zc HB.o hb) za);clear hb a i HB HK;go_wp2;refine bodyPost_ret (v:=.agg #[.bool b2,.slice A2 n2 c2,.slice E2 k2 f2]) (by simp [results,results82,go_sem,r0,r1,r2]) rfl ?_;exact HG.o
theorem Qf {q:Int}(hT:zu w)(hp:wv p)(hq:wv q)(h0:q≠0):
  Calls prog 82 #[.agg #[.int .i64 p,.int .i64 q]] w (yp w (tB p q)):=by
 rw [pU h0];obtain⟨k,m⟩:=hp;obtain⟨n,o⟩:=hq;have H0:=zb h0;have hd0:(q==0)=false:=by rw [beq_eq_false_iff_ne];exact h0
 have HT:=zj w (λw' hb=>hT.on hb);obtain⟨c,d,g,bz⟩:=z8 w 117 54 #[.int .i64 p,.int .i64 q] #[.bool false,.slice none 0 0,.slice none 0 0];obtain⟨g0,g1⟩:=d.c2;have HB:=zb c;have HK:=zb g;clear hT c d g bz h0;go_enter func82,ntmps82;go_wp2_with fail;clear g0 g1;(with_reducible refine(pY p q _ (HT.o _ HB.o) k m n o H0.o).mono ?_);rintro e w2 ⟨b2,A2,n2,c2,E2,k2,f2,rfl,i,hb⟩;obtain⟨s1,s2,s3⟩:=zw w2 54 #[.bool b2,.slice A2 n2 c2,.slice E2 k2 f2];obtain⟨p0,p1,p2⟩:=s2.c3;have a:=zg s1 (zg hb HK.o);have j:=i.below s1;obtain⟨sc0,sf0,sc1,sf1,sc2,sf2⟩:=yf a (.bool b2) (.slice A2 n2 c2);obtain⟨r0,r1,r2⟩:=(ym a (.bool b2) (.slice A2 n2 c2) (.slice E2 k2 f2)).c3;have HG:=zb (vp j a (zc (zc HB.o hb) s1) za);clear hb a i j HB HK s1 s2 s3;go_wp2;refine bodyPost_ret (v:=.agg #[.bool b2,.slice A2 n2 c2,.slice E2 k2 f2]) (by simp [results,results82,go_sem,r0,r1,r2]) rfl ?_;exact HG.o
theorem NB {q:Int}(hT:zu w)(hp:wv p)(hq:wv q):
  Calls prog 82 #[.agg #[.int .i64 p,.int .i64 q]] w (yp w (tB p q)):=by
 by_cases h0:q=0
 ·subst h0;exact Qe hT hp
 ·exact Qf hT hp hq h0
def wl (L:List (Int×Int)):List Rat:=L.map λq=>tB q.1 q.2
theorem kh (L:List (Int×Int)):(wl L).length=L.length:=QP _
def rz (w:World)(n:Nat)(xs:List Rat)(e:Ending)(w':World):Prop:=∃(A:ze) (c:Nat),e=.returned (.slice A n c)/\z7 w' A n c xs/\(∀ad,A=some ad->w.heap.size<=ad.block)/\Below w.heap.size w w'
theorem Ps (hT:zu w)(h:vT w A n c L):
  Calls prog 33 #[.slice A n c] w (rz w n (wl L)):=by
 obtain⟨ai,ah,S,T,U⟩:=info_parts gm;have hn0:n<=1048576:=qD h.fits h.small;have HL:=zb h.len;have HG:zd (∀k,k<n->wv (L.getD k (0,0)).1/\wv (L.getD k (0,0)).2/\∃ad,A=some ad/\ad.block<w.heap.size/\w.cell? (ad.add (k*2))=some (.int .i64 (L.getD k (0,0)).1)/\w.cell? (ad.add (k*2+1))=some (.int .i64 (L.getD k (0,0)).2)):=λk hk=>by
  have hl:=h.len;have e:L[k]?=some (L.getD k (0,0)):=by rw [qQ,qY za];rfl
  obtain⟨h1,h2⟩:=h.ints _ (QY e);exact⟨h1,h2,h.row k _ e⟩
 have HS:zd (∀k,k<n->wl (L.take (k+1))=wl (L.take k)++[tB (L.getD k (0,0)).1 (L.getD k (0,0)).2]):=λk hk=>by
  have hl:=h.len;unfold wl;rw [qC za,YG,qQ,qY za];rfl
 have HT:=zj w (λw' hb=>hT.on hb);unfold rz;clear h hT;have hB:=qZ w.heap.size w;go_enter func33,ntmps33;go_wp2_with fail
 go_loopg [3,4] (n+1) (λg sl ix wr=>∃(k:Nat) (v:Value) (vs:List Value),k<=n/\n<g+k/\ix=.int .i64 k/\v=sl/\yx zp wr w.heap.size 54 v (wl (L.take k)) vs/\Below w.heap.size w wr)
 case atStart=>exact⟨0,_,_,QQ _,za,rfl,rfl,yx.nil _ _ _,hB⟩
 case round=>
  clear hB;obtain⟨k,v,vs,hkn,hg,rfl,rfl,a,hB⟩:=hrel;by_cases hlt:k<n
  ·obtain⟨i,m,ad,rfl,hadb,o,s⟩:=HG.o k hlt;have H:=zb (HS.o k hlt);obtain⟨q,hq⟩:∃q,L.getD k (0,0)=q:=⟨_,rfl⟩;rw [hq] at i m o s H;obtain⟨q1,q2⟩:=q;dsimp only at i m o s H;have o:=zq hB o;have s:=cY (zq hB s);have ag:decide ((k:Int)<(n:Int))=true:=decide_eq_true za;have i1:(0:Int)<=(k:Int):=za;have i2:(k:Int)<(n:Int):=za;have O:=zb a;have J:=zb hB;have Y:=zb i;have Z:=zb m;have B:(wl (L.take k)).length=k:=by rw [kh,qL,HL.o];omega
   have M:=zb B;clear a hB i m hq B;go_wp2_with fail;(with_reducible refine(NB (HT.o _ J.o) Y.o Z.o).mono ?_);rintro e w5 ⟨b5,B5,m5,d5,E5,u5,f5,rfl,R,hb⟩;obtain⟨t1,t2,_⟩:=zw w5 54 #[.bool b5,.slice B5 m5 d5,.slice E5 u5 f5];obtain⟨aj,ak,al⟩:=t2.c3;have I:=zc hb t1;have a:=yx.below yt O.o I;have HX:=zb (R.below t1);have HB:=zb (zc J.o I);have t:∀j u,[Value.bool b5,.slice B5 m5 d5,.slice E5 u5 f5][j]?=some u->(w5.alloc (.cells #[.bool b5,.slice B5 m5 d5,.slice E5 u5 f5] 54)).cell? ((⟨w5.heap.size,0,none⟩:Addr).add j)=some u:=λj u hu=>by
    rw [wu]
    match j,hu with
    |0,hu=>simp at hu;subst hu;exact t2.cell 0
    |1,hu=>simp at hu;subst hu;exact t2.cell 1
    |2,hu=>simp at hu;subst hu;exact t2.cell 2
   have G:=zb t;have P:zd (∀u ∈ [Value.bool b5,.slice B5 m5 d5,.slice E5 u5 f5],u.oneCell'=true):=by intro u hu;simp at hu;rcases hu with rfl|rfl|rfl<;>rfl
   have aa:zd (∀u ∈ [Value.bool b5,.slice B5 m5 d5,.slice E5 u5 f5],tM u):=by intro u hu y z;simp at hu;rcases hu with rfl|rfl|rfl<;>(intro h9;cases h9)
   have ae:zd (∀u ∈(Value.agg #[.bool false,.slice none 0 0,.slice none 0 0]).cells.toList,tM u):=by intro u hu y z;simp [Value.cells] at hu;rcases hu with rfl|rfl<;>(intro h9;cases h9)
   have K:zd (w.heap.size<=(w5.alloc (.cells #[.bool b5,.slice B5 m5 d5,.slice E5 u5 f5] 54)).heap.size):=HB.o.size;have D:=a.own;rw [M.o] at D;have Q:=zb D;have N:=zb a.nou;have ac:=zb a;have ab:=zb (λr (h:v.ownBlock=some r)=>a.own.lt r h);clear hb I R t a t1 t2 o s aj ak al D;go_wp2_with (at_builtin;go_loud (refine WS _ rfl (.tmp 11) (.tmp 17) 58 rfl w.heap.size 54 ai (.agg #[.bool false,.slice none 0 0,.slice none 0 0]) 3 56 underlying58 ah S T U rfl zf v k vs rfl Q.o ⟨w5.heap.size,0,none⟩ 1 1 [.bool b5,.slice B5 m5 d5,.slice E5 u5 f5] rfl rfl G.o P.o (by unfold maxLen;omega) za K.o N.o ae.o aa.o ?_;intro v' w8 E d af C;have F:=zb (yx.grow (n:=k+1) yt ac.o HX.o E (by rw [M.o]) d C);have X:=zb (HB.o.grown d K.o (λr hr=>(ab.o r hr).1));clear E d af C));rw [<-H.o] at F;go_roundg (n - k)
   case measure=>omega
   case rel=>exact⟨k+1,_,_,za,za,by go_num,rfl,F.o,X.o⟩
  ·have ag:decide ((k:Int)<(n:Int))=false:=decide_eq_false za;have hk:k=n:=za;subst hk;rw [qV (by rw [HL.o];exact qX _)] at a;have B:(wl L).length=k:=by rw [kh];exact HL.o
   obtain⟨A1,c1,rfl,hv,hf⟩:=a.shape;rw [B] at hv⊢;have HV:=zb hv;have HF:=zb hf;have V:=zb hB;clear a hv hB B hf;go_wp2;go_ret;exact⟨A1,c1,rfl,HV.o,HF.o,V.o⟩
theorem TF {b:Bool}{F:ze}{f:Nat}(h:yu w z b A n c)(h1:zE w 1 F k f):xd w (z:Rat) b A n c F k f:=⟨by rw [yH];exact h,by rw [YU];exact h1⟩
theorem Tl:(#[Value.int .u64 (m:Int)]:Array Value).toList=zt .u64 [m]:=rfl
theorem Sn (m:Nat):dv 18446744073709551616 [m]=m:=by simp [dv]
theorem Tx (h:m<18446744073709551616):zH 18446744073709551616 [m]:=by intro d hd;simp at hd;omega
theorem Qx (m:Nat)(r:Rat)(hr:((m:Int):Rat)=r)(w:World)(hm:m<=9223372036854775807):
  Calls prog 38 #[.int .i64 (m:Int)] w (nB w r):=by
 have hd0:decide ((m:Int)<0)=false:=decide_eq_false za;have hw1:IntKind.u64.wrap (m:Int)=(m:Int):=by rw [QT];omega
 have HZ:zd (Sz 1 m):=by show m<18446744073709551616^1;rw [Nat.pow_one];omega
 have HM:zd (m<18446744073709551616):=by show _<_;omega
 have HR:=zb hr;obtain⟨y1,y2,y3,-⟩:=z8 w 43 125 #[.bool false,.slice none 0 0,.slice none 0 0] #[.int .u64 (m:Int)];have HB:=zb y1;have HK:=zb y2;have HL:=zb y3;clear y1 y2 y3 hm hr;go_enter func38,ntmps38;go_wp2_with fail;generalize (w.alloc (.cells #[.bool false,.slice none 0 0,.slice none 0 0] 43)).alloc (.cells #[.int .u64 (m:Int)] 125)=W1 at*;(with_reducible refine(SU #[.int .u64 (m:Int)] [m] _ _ 1 m HL.o rfl Tl (Tx HM.o) (Sn m) zf).mono ?_);intro e w1 hg;obtain⟨C1,r1,f1,rfl,hh,d,hb⟩:=hg.elim2;have j:=zb (d.from_ HB.o);have HB:=zb (zc HB.o hb);have HK:=zb (zg hb HK.o);have HH:=zb hh;clear hb hg hh HL d;go_wp2_with fail;(with_reducible refine(iJ false m C1 r1 f1 _ HH.o (x6 HZ HH.o)).mono ?_);rintro e w2 ⟨b2,rfl,hz,hb⟩;have c:=zc HB.o hb;have g:=zg hb HK.o;obtain⟨s1,s2,-⟩:=zw w2 3 #[.int .i64 1];have h1:=dM s2;have i:yu (w2.alloc (.cells #[.int .i64 1] 3)) (m:Int) b2 C1 r1 f1:=by
  have e:xk false m=(m:Int):=by unfold xk;simp
  rw [<-e];exact hz.below s1
 have hq:=TF i h1;rw [HR.o] at hq;have a:=zg s1 g;obtain⟨sc0,sf0,sc1,sf1,sc2,sf2⟩:=yf a (.bool b2) (.slice C1 r1 f1);obtain⟨r0,k,r2⟩:=(ym a (.bool b2) (.slice C1 r1 f1) (.slice (some ⟨w2.heap.size,0,none⟩) 1 1)).c3;have HG:=zb (uF hq a (zc c s1) (qX _) j.o (λad e9=>by injection e9 with e9;subst e9;exact c.size));clear hz hb c g s1 s2 h1 i hq a HB HK HH;go_wp2;refine bodyPost_ret (v:=.agg #[.bool b2,.slice C1 r1 f1,.slice (some ⟨w2.heap.size,0,none⟩) 1 1]) (by simp [results,results38,go_sem,r0,k,r2]) rfl ?_;exact HG.o
theorem Qy (m:Nat)(r:Rat)(hr:((-(m:Int):Int):Rat)=r)(w:World)(h0:0<m)(hm:m<=9223372036854775808):
  Calls prog 38 #[.int .i64 (-(m:Int))] w (nB w r):=by
 have hd0:decide (-(m:Int)<0)=true:=decide_eq_true za;obtain⟨v,hv⟩:∃v,IntKind.u64.wrap (-(m:Int))=v:=⟨_,rfl⟩;have hw2:IntKind.u64.wrap (-v)=(m:Int):=by rw [<-hv,QT,QT];omega
 have HZ:zd (Sz 1 m):=by show m<18446744073709551616^1;rw [Nat.pow_one];omega
 have HM:zd (m<18446744073709551616):=by show _<_;omega
 have HR:=zb hr;obtain⟨y1,y2,y3,-⟩:=z8 w 43 125 #[.bool false,.slice none 0 0,.slice none 0 0] #[.int .u64 (m:Int)];have HB:=zb y1;have HK:=zb y2;have HL:=zb y3;clear y1 y2 y3 hm hr;go_enter func38,ntmps38;go_wp2_with fail;generalize (w.alloc (.cells #[.bool false,.slice none 0 0,.slice none 0 0] 43)).alloc (.cells #[.int .u64 (m:Int)] 125)=W1 at*;(with_reducible refine(SU #[.int .u64 (m:Int)] [m] _ _ 1 m HL.o rfl Tl (Tx HM.o) (Sn m) zf).mono ?_);intro e w1 hg;obtain⟨C1,r1,f1,rfl,hh,d,hb⟩:=hg.elim2;have j:=zb (d.from_ HB.o);have HB:=zb (zc HB.o hb);have HK:=zb (zg hb HK.o);have HH:=zb hh;clear hb hg hh HL d;go_wp2_with fail;(with_reducible refine(iJ true m C1 r1 f1 _ HH.o (x6 HZ HH.o)).mono ?_);rintro e w2 ⟨b2,rfl,hz,hb⟩;have c:=zc HB.o hb;have g:=zg hb HK.o;obtain⟨s1,s2,-⟩:=zw w2 3 #[.int .i64 1];have h1:=dM s2;have i:yu (w2.alloc (.cells #[.int .i64 1] 3)) (-(m:Int)) b2 C1 r1 f1:=by
  have e:xk true m=(-(m:Int)):=by unfold xk;simp
  rw [<-e];exact hz.below s1
 have hq:=TF i h1;rw [HR.o] at hq;have a:=zg s1 g;obtain⟨sc0,sf0,sc1,sf1,sc2,sf2⟩:=yf a (.bool b2) (.slice C1 r1 f1);obtain⟨r0,k,r2⟩:=(ym a (.bool b2) (.slice C1 r1 f1) (.slice (some ⟨w2.heap.size,0,none⟩) 1 1)).c3;have HG:=zb (uF hq a (zc c s1) (qX _) j.o (λad e9=>by injection e9 with e9;subst e9;exact c.size));clear hz hb c g s1 s2 h1 i hq a HB HK HH;go_wp2;refine bodyPost_ret (v:=.agg #[.bool b2,.slice C1 r1 f1,.slice (some ⟨w2.heap.size,0,none⟩) 1 1]) (by simp [results,results38,go_sem,r0,k,r2]) rfl ?_;exact HG.o
theorem Vw (hz:wv z):Calls prog 38 #[.int .i64 z] w (nB w (z:Rat)):=by
 obtain⟨h1,h2⟩:=hz;by_cases h0:0<=z
 ·obtain⟨m,rfl⟩:=xP h0;exact Qx m _ rfl w za
 ·obtain⟨m,hm⟩:∃m:Nat,z= -(m:Int):=⟨z.natAbs,za⟩;subst hm;exact Qy m _ rfl w za za
theorem aT {z:Int}(hz:wv z):Calls prog 38 #[.int .i64 z] w (kn w (z:Rat)):=(Vw hz).mono λ_ _ h=>h.old
theorem Sq (b:Bool)(A E:ze)(n c k f:Nat)(W:World):Sem.run prog (Instr.field 43 (.agg #[.bool b,.slice A n c,.slice E k f]) 0) W=.ok (.agg #[.bool b,.slice A n c]) W:=by
 unfold Instr.field;simp [go_sem];rfl
theorem Ow (hp:wv p):Calls prog 83 #[.int .i64 p,.int .i64 0] w (nB w (tB p 0)):=by
 rw [T9];obtain⟨c,d,-⟩:=zw w 43 #[.bool false,.slice none 0 0,.slice none 0 0];have HB:=zb c;have HK:=zb d;have HP:=zb hp;clear c d hp;go_enter func83,ntmps83;go_wp2_with fail;(with_reducible refine(Vw HP.o).mono ?_);rintro e w2 ⟨b2,A2,n2,c2,E2,k2,f2,rfl,hq,g,i,hb⟩;have a:=zg hb HK.o;obtain⟨sc0,sf0,sc1,sf1,sc2,sf2⟩:=yf a (.bool b2) (.slice A2 n2 c2);obtain⟨r0,j,r2⟩:=(ym a (.bool b2) (.slice A2 n2 c2) (.slice E2 k2 f2)).c3;have HG:=zb (uF hq a (zc HB.o hb) (qX _) (g.from_ HB.o) (i.from_ HB.o));clear hb hq a HB HK g i;go_wp2;refine bodyPost_ret (v:=.agg #[.bool b2,.slice A2 n2 c2,.slice E2 k2 f2]) (by simp [results,results83,go_sem,r0,j,r2]) rfl ?_;exact HG.o
theorem Ox {q:Int}(hp:wv p)(hq:wv q)(h0:q≠0):Calls prog 83 #[.int .i64 p,.int .i64 q] w (nB w (tB p q)):=by
 rw [pU h0];have hd0:(q==0)=false:=by rw [beq_eq_false_iff_ne];exact h0
 have H0:=zb h0;have j:=zb (fe hp.1 hp.2);have k:=zb (fe hq.1 hq.2);obtain⟨c,d,-⟩:=zw w 43 #[.bool false,.slice none 0 0,.slice none 0 0];have HB:=zb c;have HK:=zb d;have HP:=zb hp;have HQ:=zb hq;clear c d hp hq h0;go_enter func83,ntmps83;go_wp2_with fail;(with_reducible refine(aT HP.o).mono ?_);rintro e w2 ⟨b2,A2,n2,c2,E2,k2,f2,rfl,hx,hb⟩;have HX:zd (yu w2 p b2 A2 n2 c2):=by have h:=hx.1;rw [yH] at h;exact h
 have HB:=zb (zc HB.o hb);have HK:=zb (zg hb HK.o);clear hb hx;have m:=λW=>Sq b2 A2 E2 n2 c2 k2 f2 W;go_wp2_with fail;clear m;(with_reducible refine(aT HQ.o).mono ?_);rintro e w3 ⟨b3,A3,n3,c3,E3,k3,f3,rfl,hy,hb⟩;have HY:zd (yu w3 q b3 A3 n3 c3):=by have h:=hy.1;rw [yH] at h;exact h
 have HX:=zb (HX.o.below hb);have HB:=zb (zc HB.o hb);have HK:=zb (zg hb HK.o);clear hb hy;have n:=λW=>Sq b3 A3 E3 n3 c3 k3 f3 W;go_wp2_with fail;clear n;(with_reducible refine(Um p q b2 A2 n2 c2 b3 A3 n3 c3 1 1 _ j.o HX.o k.o HY.o zf zf H0.o).mono ?_);rintro e w4 ⟨b4,A4,n4,c4,E4,k4,f4,rfl,hq,g,i,hb⟩;have a:=zg hb HK.o;obtain⟨sc0,sf0,sc1,sf1,sc2,sf2⟩:=yf a (.bool b4) (.slice A4 n4 c4);obtain⟨r0,o,r2⟩:=(ym a (.bool b4) (.slice A4 n4 c4) (.slice E4 k4 f4)).c3;have HG:=zb (uF hq a (zc HB.o hb) (qX _) (g.from_ HB.o) (i.from_ HB.o));clear hb hq a HB HK HX HY g i;go_wp2;refine bodyPost_ret (v:=.agg #[.bool b4,.slice A4 n4 c4,.slice E4 k4 f4]) (by simp [results,results83,go_sem,r0,o,r2]) rfl ?_;exact HG.o
theorem Oy {q:Int}(hp:wv p)(hq:wv q):Calls prog 83 #[.int .i64 p,.int .i64 q] w (nB w (tB p q)):=by
 by_cases h0:q=0
 ·subst h0;exact Ow hp
 ·exact Ox hp hq h0
theorem wf:vU xd where
 below h hb:=h.below hb
 offg h hk hcs ho:=⟨⟨h.1.1,VL h.1.2 hk hcs ho⟩,VL h.2 hk hcs ho⟩
abbrev re (w:World)(A:ze)(n c:Nat)(xs:List Rat):Prop:=zZ xd w A n c xs
theorem re.keep {w':World}(h:re w A n c xs)(hb:Below w.heap.size w w'):re w' A n c xs:=zZ.below wf h hb
theorem re.get {wr:World}(h:re w A n c xs)(hb:Below w.heap.size w wr){i:Nat}(hi:i<n):∃(ad:Addr) (b:Bool) (B:ze) (m d:Nat) (F:ze) (u v:Nat),A=some ad/\ad.block<w.heap.size/\wr.cell? (ad.add (i*3))=some (.bool b)/\wr.cell? ⟨(ad.add (i*3)).block,(ad.add (i*3)).off+1,none⟩=some (.slice B m d)/\wr.cell? ⟨(ad.add (i*3)).block,(ad.add (i*3)).off+2,none⟩=some (.slice F u v)/\xd wr (xs.getD i 0) b B m d F u v:=by
 obtain⟨ad,b,B,m,d,F,u,v,e,h0,h1,h2,h3,h4⟩:=h.at_ hi 0;exact⟨ad,b,B,m,d,F,u,v,e,h0,zq hb h1,zq hb (cY h2),zq hb (Sh h3),h4.below hb⟩
def Wf (w:World)(n:Nat)(xs:List Rat)(e:Ending)(w':World):Prop:=∃(A:ze) (c:Nat),e=.returned (.slice A n c)/\re w' A n c xs/\Below w.heap.size w w'
theorem Sy:(prog.info? 43).map (λi=>(i.zero,i.size,i.bytes))=some (some (.agg #[.bool false,.slice none 0 0,.slice none 0 0]),3,56):=zU
def nN (lo:Nat):El Rat:=λw x b A n c F k f=>xd w x b A n c F k f/\(∀ad,A=some ad->lo<=ad.block)/\∀ad,F=some ad->lo<=ad.block
theorem Yb (lo:Nat):vU (nN lo):=⟨λh hb=>⟨wf.below h.1 hb,h.2⟩,λh hk a ho=>⟨wf.offg h.1 hk a ho,h.2⟩⟩
theorem iq {α:Type}{E E':El α}{xs:List α}(h:zZ E w A n c xs)(hR:∀{x:α} {b:Bool} {A:ze} {n c:Nat} {F:ze} {k f:Nat},E w x b A n c F k f->E' w x b A n c F k f):zZ E' w A n c xs:=
 ⟨h.len,h.fits,h.most,λi x hi=>by
  obtain⟨ad,b,B,m,d,F,u,v,e,h1,h2,h3,h4,h5⟩:=h.num i x hi;exact⟨ad,b,B,m,d,F,u,v,e,h1,h2,h3,h4,hR h5⟩⟩
def Tq (w:World)(n:Nat)(xs:List Rat)(e:Ending)(w':World):Prop:=∃(A:ze) (c:Nat),e=.returned (.slice A n c)/\zZ (nN w.heap.size) w' A n c xs/\(∀ad,A=some ad->w.heap.size<=ad.block/\ad.block<w'.heap.size)/\Below w.heap.size w w'
theorem Rr (h:vT w A n c L):
  Calls prog 34 #[.slice A n c] w (Tq w n (wl L)):=by
 obtain⟨ae,ac,T,U,V⟩:=info_parts Sy;have hn0:n<=1048576:=qD h.fits h.small;have HL:=zb h.len;have HG:zd (∀k,k<n->wv (L.getD k (0,0)).1/\wv (L.getD k (0,0)).2/\∃ad,A=some ad/\ad.block<w.heap.size/\w.cell? (ad.add (k*2))=some (.int .i64 (L.getD k (0,0)).1)/\w.cell? (ad.add (k*2+1))=some (.int .i64 (L.getD k (0,0)).2)):=λk hk=>by
  have hl:=h.len;have e:L[k]?=some (L.getD k (0,0)):=by rw [qQ,qY za];rfl
  obtain⟨h1,h2⟩:=h.ints _ (QY e);exact⟨h1,h2,h.row k _ e⟩
 have HS:zd (∀k,k<n->wl (L.take (k+1))=wl (L.take k)++[tB (L.getD k (0,0)).1 (L.getD k (0,0)).2]):=λk hk=>by
  have hl:=h.len;unfold wl;rw [qC za,YG,qQ,qY za];rfl
 unfold Tq;clear h;have hB:=qZ w.heap.size w;go_enter func34,ntmps34;go_wp2_with fail
 go_loopg [3,4] (n+1) (λg sl ix wr=>∃(k:Nat) (v:Value) (vs:List Value),k<=n/\n<g+k/\ix=.int .i64 k/\v=sl/\yx (nN w.heap.size) wr w.heap.size 43 v (wl (L.take k)) vs/\Below w.heap.size w wr)
 case atStart=>exact⟨0,_,_,QQ _,za,rfl,rfl,yx.nil _ _ _,hB⟩
 case round=>
  clear hB;obtain⟨k,v,vs,hkn,hg,rfl,rfl,a,hB⟩:=hrel;by_cases hlt:k<n
  ·obtain⟨j,m,ad,rfl,hadb,B,C⟩:=HG.o k hlt;have I:=zb (HS.o k hlt);obtain⟨q,hq⟩:∃q,L.getD k (0,0)=q:=⟨_,rfl⟩;rw [hq] at j m B C I;obtain⟨q1,q2⟩:=q;dsimp only at j m B C I;have N:zd (∀w',Below w.heap.size w w'->w'.cell? (ad.add (k*2))=some (.int .i64 q1)/\w'.cell? ⟨(ad.add (k*2)).block,(ad.add (k*2)).off+1,none⟩=some (.int .i64 q2)):=λw' hb=>⟨zq hb B,cY (zq hb C)⟩;have ab:decide ((k:Int)<(n:Int))=true:=decide_eq_true za;have i1:(0:Int)<=(k:Int):=za;have i2:(k:Int)<(n:Int):=za;have J:=(qZ wr.heap.size wr).drew;have z:=zb (yx.below (Yb _) a J);have HB:=zb (zc hB J);have Y:=zb j;have Z:=zb m;have s:(wl (L.take k)).length=k:=by rw [kh,qL,HL.o];omega
   have O:=zb s;obtain⟨c0,c1⟩:=N.o _ hB;clear a j m hq s J B C hB;go_wp2_with fail;refine rg (zk c0 (zk c1 zO)) (λhHeld=>?_);clear c0 c1;generalize wr.drew=D at*;refine tk 0 ?_;refine tk 1 ?_;refine tk 2 ?_;refine tk 3 ?_;refine tk 4 ?_;refine tk 5 ?_;refine tk 6 ?_;refine tk 7 ?_;refine tk 8 ?_;refine tk 9 ?_;refine tk 10 ?_;refine rc 11 (λKK hK=>?_);go_simp;(with_reducible refine(Oy Y.o Z.o).mono ?_);rintro e w5 ⟨b5,B5,m5,d5,E5,u5,f5,rfl,S,Q,R,hb⟩;refine hK.out _ _ (Cs.below hHeld hb) (λhHeld=>?_);clear hK KK;obtain⟨t1,t2,-⟩:=zw w5 43 #[.bool b5,.slice B5 m5 d5,.slice E5 u5 f5];have K:=zc hb t1;have a:=yx.below (Yb _) z.o K;have HX:=zb (show nN w.heap.size _ _ _ _ _ _ _ _ _ from⟨S.below t1,Q.from_ HB.o,R.from_ HB.o⟩);have HB:=zb (zc HB.o K);have o:=zb (bW t2);have H:=zb HB.o.size;have u:=a.own;rw [O.o] at u;have G:=zb u;have E:=zb a.nou;have P:=zb (λr (h:v.ownBlock=some r)=>a.own.lt r h);have z:=zb a;have i:=Cs.below hHeld t1;clear hb K S Q R a t1 t2 u;refine rc 12 (λKK hK=>?_);go_simp;refine hK.out _ _ i (λhHeld=>?_);clear hK KK i;refine rc 13 (λKK hK=>?_);refine Z6 _ (.tmp 11) (.tmp 23) 78 rfl w.heap.size 43 ae (.agg #[.bool false,.slice none 0 0,.slice none 0 0]) 3 56 underlying78 ac T U V rfl zf v k vs rfl G.o ⟨w5.heap.size,0,none⟩ 1 1 [.bool b5,.slice B5 m5 d5,.slice E5 u5 f5] rfl rfl o.o (Zn _ _ _ _ _ _ _) (by unfold maxLen;omega) za H.o E.o aY (Zm _ _ _ _ _ _ _) ?_;intro v' w8 y d aa t;have F:=zb (yx.grow (n:=k+1) (Yb _) z.o HX.o y (by rw [O.o]) d t);have M:=zb (HB.o.grown d H.o (λr hr=>(P.o r hr).1));obtain⟨c0,c1⟩:=N.o _ M.o;refine hK.out _ _ (zk c0 (zk c1 zO)) (λhHeld=>?_);clear hK KK c0 c1 y d aa t;refine tk 14 ?_;refine z4 ?_;clear hHeld z HX HB o H G E P;rw [<-I.o] at F;go_wp2;go_roundg (n - k)
   case measure=>omega
   case rel=>exact⟨k+1,_,_,za,za,by go_num,rfl,F.o,M.o⟩
  ·have ab:decide ((k:Int)<(n:Int))=false:=decide_eq_false za;have hk:k=n:=za;subst hk;rw [qV (by rw [HL.o];exact qX _)] at a;have s:(wl L).length=k:=by rw [kh];exact HL.o
   obtain⟨A1,c1,rfl,hv,hf⟩:=a.shape;have HF:=zb (λad (e9:A1=some ad)=>a.own.lt ad.block (by subst e9;rfl));rw [s] at hv⊢;have HV:=zb hv;have X:=zb hB;clear a hv hB s hf;go_wp2;go_ret;exact⟨A1,c1,rfl,HV.o,HF.o,X.o⟩
theorem UY (h:vT w A n c L):
  Calls prog 34 #[.slice A n c] w (Wf w n (wl L)):=
 (Rr h).mono λ_ _ ⟨A1,c1,e,h1,_,h3⟩=>⟨A1,c1,e,iq h1 (λh=>h.1),h3⟩
