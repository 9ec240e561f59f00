/- What this claim leans on. -/
import Derived.Test.YtkcjgcflloldoaaGreatDoorPEWhole
set_option linter.unusedVariables false
set_option linter.unusedSimpArgs false
namespace Go.Proofs.YtkcjgcflloldoaaGreatDoor
open Go Go.RowKit Go.Proofs.Tryz
set_option maxHeartbeats 16000000
variable {p:Addr}{cs:Array Value}{b:Bool}{z:Int}{M:List (List Rat)}{xs:List Rat}{vs:List Value}{a c d f g gc i j k m n x:Nat}{t:TypeId}{v:Value}{w w' wr:World}{A B E Q:ze}
def yd (M:Nat->Nat->Rat)(k:Nat)(v:Nat->Rat):Nat->Nat->Rat:=λi j=>if i=k then v j else M i j
theorem Yv (M:Nat->Nat->Rat)(v:Nat->Rat)(c:Nat):y7 (yd M 0 v) c=y7 M c:=by
 funext i j;unfold y7 yd;rw [if_neg za]
theorem cF (M:Nat->Nat->Rat)(k:Nat)(v:Nat->Rat)(c:Nat):y7 (yd M (k+1) v) c=yd (y7 M c) k λj=>v (y8 c j):=by
 funext i j;unfold y7 yd
 by_cases e:i=k
 ·rw [if_pos e,if_pos za]
 ·rw [if_neg e,if_neg za]
theorem dU:∀{n:Nat} (M:Nat->Nat->Rat) {k:Nat} (_:k<n) (a b:Rat) (u v:Nat->Rat),zD n (yd M k λj=>a*u j+b*v j)=a*zD n (yd M k u)+b*zD n (yd M k v)
 |0,M,k,hk,_,_,_,_=>by omega
 |n+1,M,0,hk,a,b,u,v=>by
   rw [vK,vK,vK,vL,vL,<-sF];refine yj λc _=>?_;rw [Yv,Yv,Yv];show sg c*(a*u c+b*v c)*_=a*(sg c*u c*_)+b*(sg c*v c*_)
   grind
 |n+1,M,k+1,hk,a,b,u,v=>by
   rw [vK,vK,vK,vL,vL,<-sF];refine yj λc _=>?_;rw [cF,cF,cF,dU (y7 M c) za a b];have e:∀w:Nat->Rat,yd M (k+1) w 0 c=M 0 c:=λw=>by unfold yd;rw [if_neg za]
   rw [e,e,e]
   grind
theorem P6 (k:Nat)(f:Nat->Rat):zv (k+1) f=f 0+zv k λi=>f (i+1):=by
 induction k with
 |zero=>rw [xz];show(0:Rat)+f 0=f 0+0;grind
 |succ k ih=>rw [xz,ih,xz];grind
theorem lJ (h:d<=c):y8 (c+1) (y8 d j)=y8 d (y8 c j):=by
 unfold y8;by_cases h1:j<d
 ·rw [if_pos h1,if_pos (by omega:j<c),if_pos za,if_pos h1]
 ·rw [if_neg h1];by_cases h2:j<c
  ·rw [if_pos h2,if_pos za,if_neg h1]
  ·rw [if_neg h2,if_neg za,if_neg za]
theorem Tw {M:Nat->Nat->Rat}(h:∀j,M 0 j=M 1 j):zD (n+2) M=0:=by
 obtain⟨g,hg⟩:∃g:Nat->Nat->Rat,∀c d,g c d=sg c*M 0 c*(sg d*M 1 (y8 c d)*zD n (y7 (y7 M c) d)):=⟨_,λ_ _=>rfl⟩;have e1:zD (n+2) M=zv (n+2) λc=>zv (n+1) λd=>g c d:=by
  rw [vK];refine yj λc _=>?_;rw [vK,vL];exact yj λd _=>(hg c d).symm
 have a:∀c d,d<=c->g (c+1) d= -g d c:=λc d hd=>by
  rw [hg,hg];have s1:y8 (c+1) d=d:=by unfold y8;rw [if_pos za]
  have s2:y8 d c=c+1:=by unfold y8;rw [if_neg za]
  have s3:y7 (y7 M (c+1)) d=y7 (y7 M d) c:=by
   funext i j;unfold y7;rw [lJ hd]
  rw [s1,s2,s3,h (c+1),h d,SX]
  grind
 have e2:∀c d,g c d=(if d<c then g c d else 0)+(if d<c then 0 else g c d):=λc d=>by
  by_cases q:d<c
  ·rw [if_pos q,if_pos q,xE]
  ·rw [if_neg q,if_neg q,YY]
 have e3:(zv (n+2) λc=>zv (n+1) λd=>g c d)=(zv (n+2) λc=>zv (n+1) λd=>if d<c then g c d else 0)+zv (n+2) λc=>zv (n+1) λd=>if d<c then 0 else g c d:=by
  rw [<-sF];refine yj λc _=>?_;rw [<-sF];exact yj λd _=>e2 c d
 have e4:(zv (n+2) λc=>zv (n+1) λd=>if d<c then g c d else 0)=zv (n+1) λc=>zv (n+1) λd=>if d<=c then g (c+1) d else 0:=by
  rw [P6,u3 λd _=>by rw [if_neg za],YY];exact yj λc _=>yj λd _=>by
   by_cases q:d<=c
   ·rw [if_pos q,if_pos za]
   ·rw [if_neg q,if_neg za]
 have e5:(zv (n+2) λc=>zv (n+1) λd=>if d<c then 0 else g c d)=zv (n+1) λd=>zv (n+1) λc=>if c<=d then g c d else 0:=by
  rw [Y2];refine yj λd hd=>?_;rw [xz,if_pos za,xE];exact yj λc _=>by
   by_cases q:c<=d
   ·rw [if_pos q,if_neg za]
   ·rw [if_neg q,if_pos za]
 rw [e1,e3,e4,e5,<-sF];refine u3 λc _=>?_;rw [<-sF];refine u3 λd _=>?_;by_cases q:d<=c
 ·rw [if_pos q,if_pos q,a c d q];grind
 ·rw [if_neg q,if_neg q];grind
theorem X9 (M:Nat->Nat->Rat)(k:Nat)(v:Nat->Rat)(j:Nat):yd M k v k j=v j:=if_pos rfl
theorem fA (M:Nat->Nat->Rat){k i:Nat}(h:i≠k)(v:Nat->Rat)(j:Nat):yd M k v i j=M i j:=if_neg h
theorem Y1 {M:Nat->Nat->Rat}{l:Nat}(h:k≠l)(u v:Nat->Rat):yd (yd M k u) l v=yd (yd M l v) k u:=by
 funext i j
 unfold yd;by_cases e:i=l
 ·rw [if_pos e,if_neg za,if_pos e]
 ·rw [if_neg e,if_neg e]
theorem kY {n k l:Nat}(hk:k<n)(hl:l<n)(c:k≠l)(same:∀M:Nat->Nat->Rat,(∀j,M k j=M l j)->zD n M=0)(M:Nat->Nat->Rat)(u v:Nat->Rat):zD n (yd (yd M k u) l v)= -zD n (yd (yd M k v) l u):=by
 have s:∀w:Nat->Rat,zD n (yd (yd M k w) l w)=0:=λw=>same _ λj=>by rw [X9,fA _ c,X9]
 have e1:∀a x y:Nat->Rat,zD n (yd (yd M k a) l λj=>1*x j+1*y j)=1*zD n (yd (yd M k a) l x)+1*zD n (yd (yd M k a) l y):=λa x y=>dU _ hl 1 1 x y;have e2:∀b x y:Nat->Rat,zD n (yd (yd M k λj=>1*x j+1*y j) l b)=1*zD n (yd (yd M k x) l b)+1*zD n (yd (yd M k y) l b):=λb x y=>by
  rw [Y1 c,Y1 c,Y1 c];exact dU _ hk 1 1 x y
 have h1:=s λj=>1*u j+1*v j;rw [e1,e2,e2,s u,s v] at h1
 grind
theorem dY:∀{n:Nat} {M:Nat->Nat->Rat} {k l:Nat},k<l->l<n->(∀j,M k j=M l j)->zD n M=0
 |0,_,_,_,_,h,_=>by omega
 |n+1,M,k+1,l,hkl,hl,h=>by
   rw [vK];refine u3 λc _=>?_;obtain⟨l',rfl⟩:∃q,l=q+1:=⟨l - 1,za⟩;rw [dY (n:=n) (M:=y7 M c) (k:=k) (l:=l') za za λj=>h _,XQ]
 |n+1,M,0,l,hkl,hl,h=>by
   obtain⟨n',rfl⟩:∃q,n=q+1:=⟨n - 1,za⟩;by_cases e:l=1
   ·subst e;exact Tw h
   ·-- rows 1 and l are exchanged:below the first row all rows are known
    have e1:zD (n'+2) M= -zD (n'+2) (yd (yd M 1 (M l)) l (M 1)):=by
     rw [vK,vK,<-Xv];refine yj λc _=>?_;obtain⟨l',rfl⟩:∃q,l=q+1:=⟨l - 1,za⟩;have f1:yd (yd M 1 (M (l'+1))) (l'+1) (M 1) 0 c=M 0 c:=by rw [fA _ za,fA _ za]
     have f2:y7 (yd (yd M (0+1) (M (l'+1))) (l'+1) (M 1)) c=yd (yd (y7 M c) 0 λj=>M (l'+1) (y8 c j)) l' λj=>M 1 (y8 c j):=by rw [cF,cF]
     have f3:y7 M c=yd (yd (y7 M c) 0 λj=>M 1 (y8 c j)) l' λj=>M (l'+1) (y8 c j):=by
      funext i j
      unfold yd;by_cases q1:i=l'
      ·rw [if_pos q1,q1];rfl
      ·rw [if_neg q1];by_cases q2:i=0
       ·rw [if_pos q2,q2];rfl
       ·rw [if_neg q2]
     have f4:=kY (n:=n'+1) (k:=0) (l:=l') za za za (λN hN=>dY (n:=n'+1) (M:=N) (k:=0) (l:=l') za za hN) (y7 M c) (λj=>M 1 (y8 c j)) (λj=>M (l'+1) (y8 c j));rw [<-f3] at f4;rw [f1,f2,f4]
     grind
    rw [e1,Tw (M:=yd (yd M 1 (M l)) l (M 1)) λj=>by
     rw [fA _ za,fA _ za,fA _ za,X9];exact h j,Rat.neg_zero]
theorem OM (n:Nat)(M:Nat->Nat->Rat):zD n (λi j=>M j i)=zD n M:=by
 have ha:uS n λM=>zD n λi j=>M j i:=⟨λM N e=>uz λi hi j hj=>e j hj i hi,λM k hk a b u v=>by
   show zD n _=_;have e:∀w:Nat->Rat,(λi j=>zP M k w j i)=yd (λi j=>M j i) k w:=λw=>rfl;rw [e,e,e];exact dU _ hk a b u v,λM k l hk hl c e=>by
   show zD n (λi j=>M j i)=0;have e2:zD n (λi j=>M j i)=zD n λi j=>if j<n then M j i else 0:=uz λi _ j hj=>by rw [if_pos hj]
   rw [e2];rcases XV k l with a|a|a
   ·exact dY a hl λj=>by
     by_cases q:j<n
     ·rw [if_pos q,if_pos q];exact e j q
     ·rw [if_neg q,if_neg q]
   ·exact absurd a c
   ·exact dY a hk λj=>by
     by_cases q:j<n
     ·rw [if_pos q,if_pos q];exact(e j q).symm
     ·rw [if_neg q,if_neg q]⟩
 have h1:=ha.one_ (uS.det_ n) M;have h2:(λi j=>wS j i)=wS:=by
  funext i j;unfold wS
  by_cases e:i=j
  ·rw [if_pos e,if_pos e.symm]
  ·rw [if_neg e,if_neg (Ne.symm e)]
 rw [Xm,Rat.mul_one] at h1;have h3:zD n (λi j=>M j i)=zD n M*zD n (λi j=>wS j i):=h1;rw [h3,h2,Xm,Rat.mul_one]
set_option maxRecDepth 100000
theorem WK {r:Rat}(h:zp w' r b A n c E k f)(hb:Below w.heap.size w w'):yp w r (.returned (.agg #[.bool b,.slice A n c,.slice E k f])) w':=⟨_,_,_,_,_,_,_,rfl,h,hb⟩
section
variable {A:ze}{n c m:Nat}{M:List (List Rat)}{w:World}
theorem mj:∀(args:Array Value) (w':World),Sem.run prog (callFunc 73 args) w'=.ok (.enter 73 args) w':=Go.Proofs.enters_of func73 zU rfl
theorem jH (hT:zu w)(i j:Nat):Calls prog 73 #[.int .i64 (i:Int),.int .i64 (j:Int)] w (yp w (if i=j then 1 else 0)):=by
 obtain⟨a,c,bz⟩:=zw w 54 #[.bool false,.slice none 0 0,.slice none 0 0];by_cases hij:i=j
 ·have e0:((i:Int)==(j:Int))=true:=by rw [beq_iff_eq];omega
  rw [if_pos hij];have HT:=zb (hT.on a);have HB:=zb a;have HK:=zb c;clear hij a c bz hT;go_enter func73,ntmps73;go_wp2_with fail;(with_reducible refine(fz 1 _ HT.o zf zf).mono ?_);rintro e w3 ⟨b3,A3,n3,c3,E3,k3,f3,rfl,g,hb⟩;have d:=zg hb HK.o;obtain⟨sc0,sf0,sc1,sf1,sc2,sf2⟩:=yf d (.bool b3) (.slice A3 n3 c3);obtain⟨r0,r1,r2⟩:=(ym d (.bool b3) (.slice A3 n3 c3) (.slice E3 k3 f3)).c3;have HG:zd (yp w 1 _ _):=vp (r:=1) g d (zc HB.o hb) (qX _);clear hb d g HB HK HT;go_wp2;refine bodyPost_ret (v:=.agg #[.bool b3,.slice A3 n3 c3,.slice E3 k3 f3]) (by simp [results,results73,go_sem,r0,r1,r2]) rfl ?_;exact HG.o
 ·have e0:((i:Int)==(j:Int))=false:=by rw [beq_eq_false_iff_ne];omega
  rw [if_neg hij];obtain⟨r0,r1,r2⟩:=c.c3;have HG:=zb (WK (aA _) a);clear a c bz hij;go_enter func73,ntmps73;go_wp2;refine bodyPost_ret (v:=.agg #[.bool false,.slice none 0 0,.slice none 0 0]) (by simp [results,results73,go_sem,r0,r1,r2]) rfl ?_;exact HG.o
theorem jT:∀(args:Array Value) (w':World),Sem.run prog (callFunc 71 args) w'=.ok (.enter 71 args) w':=Go.Proofs.enters_of func71 zU rfl
theorem fP {gs:Nat}{q:Nat}(h:xi (zZ zp) w Q n M)(hd:zQ M n m)(hk:zh w gs 26 #[.slice Q n q])(hi:i<n)(hj:j<m):Calls prog 71 #[.int .i64 (i:Int),.int .i64 (j:Int),.pointer (some ⟨gs,0,none⟩)] w (yp w (zn M i j)):=by
 obtain⟨a,k,bz⟩:=zw w 54 #[.bool false,.slice none 0 0,.slice none 0 0];obtain⟨ad,B,d,rfl,-,hc,hv⟩:=h.get (yk yt) (qZ _ w) hi (hd.row hi);obtain⟨ae,b1,B1,m1,d1,E1,u1,v1,rfl,-,h0,h1,h2,hq⟩:=z7.get hv (qZ _ w) hj;obtain⟨hc,h0,h1,h2⟩:=wt a hc h0 h1 h2;have g0:=(zg a hk).c1;have i1:(0:Int)<=(i:Int):=za;have i2:(i:Int)<(n:Int):=za;have i3:(0:Int)<=(j:Int):=za;have i4:(j:Int)<(m:Int):=za;obtain⟨c,g,-⟩:=zw w 54 #[.bool b1,.slice B1 m1 d1,.slice E1 u1 v1];obtain⟨r0,r1,r2⟩:=g.c3;have HG:=zb (WK (hq.below c) c);clear hq a k bz c g h hk hv hd;go_enter func71,ntmps71;go_wp2;refine bodyPost_ret (v:=.agg #[.bool b1,.slice B1 m1 d1,.slice E1 u1 v1]) (by simp [results,results71,go_sem,r0,r1,r2]) rfl ?_;exact HG.o
theorem jS:∀(args:Array Value) (w':World),Sem.run prog (callFunc 67 args) w'=.ok (.enter 67 args) w':=Go.Proofs.enters_of func67 zU rfl
theorem OH {k:Nat}{V:ze}{cv:Nat}(hk:zh w gc 3 #[.int .i64 z]):Calls prog 67 #[.slice V k cv,.pointer (some ⟨gc,0,none⟩)] w (λe w'=>e=.returned (.bool (!decide ((k:Int)=z)))/\Below w.heap.size w w'):=by
 have g0:=hk.c1;obtain⟨b,hb⟩:∃b,(!decide ((k:Int)=z))=b:=⟨_,rfl⟩;have hb2:((k:Int) !=z)=b:=by rw [<-hb];by_cases q:(k:Int)=z<;>simp [q]
 rw [hb];clear hk hb;go_enter func67,ntmps67;go_wp2;go_ret;exact⟨rfl,qZ _ _⟩
end
theorem pB {r c:Int}(h:rn r c=b)(w:World):Calls prog 68 #[.int .i64 r,.int .i64 c] w (λe w'=>e=.returned (.bool b)/\w=w'):=h▸mR r c w
theorem Wu (fn:Fn)(first a:Array Value)(w:World):(Instr.makeFunc fn first a).run prog w=.ok (.func fn first a) w:=rfl
theorem iw:zm 1 (1:Rat):=⟨zf,zf⟩
theorem pN (r c:Nat):zm 1 (if r=c then(1:Rat) else 0):=by split<;>first|exact iw|exact zm.zero
theorem mS {n:Nat}(hT:zu w)(hn:n<=64):Calls prog 26 #[.int .i64 (n:Int)] w (Yn w n n (tA n)):=by
 have H:=λW=>zb (pB (TZ hn hn) W);obtain⟨a,g,bz⟩:=zw w 28 #[.slice none 0 0,.int .i64 0];have HM:zd (Calls _ _ _ _ (sW _ n n (tA n))):=TY (K:=1) (λr c=>if r=c then 1 else 0) 73 #[] n n _ (hT.on a) ⟨mj,λr c _ _ w' hb=>jH ((hT.on a).on hb) r c⟩ (λr c _ _=>pN r c) hn hn;have HK:=zb g;have HB:=zb a;clear a g bz hT;go_enter func26,ntmps26;go_wp2_with fail;refine(H _).o.mono ?_;rintro e w1 ⟨rfl,rfl⟩;go_wp2_with fail;refine HM.o.mono ?_;rintro e w3 ⟨A3,c3,rfl,j,i,hb⟩;have d:=zg hb HK.o;obtain⟨sc0,sf0,sc1,sf1⟩:=vh d (.slice A3 n c3);obtain⟨r0,r1⟩:=(vg d (.slice A3 n c3) (.int .i64 (n:Int))).c2;have HG:=zb (fU j (λad e=>qJ HK.o.lt (i ad e)) d (zc HB.o hb) za);clear hb d j i HK HB;go_wp2;refine bodyPost_ret (v:=.tuple #[.agg #[.slice A3 n c3,.int .i64 (n:Int)],.bool true]) (by simp [results,results26,go_sem,r0,r1]) rfl ?_;exact HG.o
section
variable {A:ze}{n c m K:Nat}{MM:List (List Rat)}{w:World}
end
def sv (M:List (List Rat))(z:Int):Bool:=M.any λL=> !decide (((L.length:Nat):Int)=z)
theorem rO {α:Type}(p:α->Bool)(xs:List α)(d:α)(k:Nat)(h:k<xs.length):(xs.take (k+1)).any p=((xs.take k).any p||p (xs.getD k d)):=by
 rw [qC h,List.any_append,qQ,qY h];simp
theorem jE {α:Type}(p:α->Bool)(xs:List α)(d:α)(k:Nat)(h:k<xs.length)(hp:p (xs.getD k d)=true):xs.any p=true:=by
 refine List.any_eq_true.2 ⟨xs.getD k d,?_,hp⟩;rw [qQ,qY h];exact xM h
theorem qk (h:zQ M n m):sv M (m:Int)=false:=by
 unfold sv;refine List.any_eq_false.2 λL hL=>?_;have:=h.cols L hL;simp;omega
theorem RY {q:Nat}(h:xi (zZ zp) w Q n M)(hk:zh w gc 3 #[.int .i64 z])(hn:n<=1048576):
  Calls prog 86 #[.slice Q n q,.func (.func 67) #[] #[.pointer (some ⟨gc,0,none⟩)]] w (λe w'=>∃k:Int,e=.returned (.int .i64 k)/\decide (k>=0)=sv M z/\Below w.heap.size w w'):=by
 have hl:=h.len;have HL:=zb hl;have HR:=zb h;have HK:=zj w (λw' hb=>zg hb hk);have hEn:=jS;have hB:=qZ w.heap.size w;have HS:zd (∀k,k<n->(M.take (k+1)).any (λL:List Rat=> !decide (((L.length:Nat):Int)=z))=((M.take k).any (λL:List Rat=> !decide (((L.length:Nat):Int)=z))||(λL:List Rat=> !decide (((L.length:Nat):Int)=z)) (M.getD k []))):=λk hk=>rO (λL:List Rat=> !decide (((L.length:Nat):Int)=z)) M [] k za;have HA:zd (∀k,k<n->(λL:List Rat=> !decide (((L.length:Nat):Int)=z)) (M.getD k [])=true->M.any (λL:List Rat=> !decide (((L.length:Nat):Int)=z))=true):=λk hk=>jE (λL:List Rat=> !decide (((L.length:Nat):Int)=z)) M [] k za;have i0:(0:Int)<=(n:Int):=za;clear h hk hl;unfold sv;go_enter func86,ntmps86;go_wp2_with fail
 go_loopg [8] (n+1) (λg ix wr=>∃(k:Nat),k<=n/\n<g+k/\ix=.int .i64 k/\zd ((M.take k).any (λL:List Rat=> !decide (((L.length:Nat):Int)=z))=false)/\Below w.heap.size w wr)
 case atStart=>exact⟨0,QQ _,za,rfl,rfl,hB⟩
 case round=>
  clear hB;obtain⟨k,hkn,hg,rfl,m,hB⟩:=hrel;by_cases hlt:k<n
  ·have o:decide ((k:Int)<(n:Int))=true:=decide_eq_true za;have i1:(0:Int)<=(k:Int):=za;have i2:(k:Int)<(n:Int):=za;have j:=zb (HS.o k hlt);have i:=zb (HA.o k hlt);obtain⟨ad,B,d,rfl,-,hc,-⟩:=HR.o.get (yk yt) hB hlt rfl;obtain⟨L,hL⟩:∃L,M.getD k []=L:=⟨_,rfl⟩;rw [hL] at hc;rw [hL] at j i;obtain⟨b,c⟩:∃b,(!decide (((L.length:Nat):Int)=z))=b:=⟨_,rfl⟩;rw [c] at j i;have HC:∀W,Below w.heap.size w W->zd (Calls prog 67 #[.slice B L.length d,.pointer (some ⟨gc,0,none⟩)] W (λe w'=>e=.returned (.bool b)/\Below W.heap.size W w')):=λW hW=>by
    have q:=OH (V:=B) (cv:=d) (k:=L.length) (HK.o W hW);rw [c] at q;exact q
   have HB:=zb hB;clear hB hL;cases b
   ·go_wp2_with fail;refine(HC _ HB.o).o.mono ?_;rintro e w3 ⟨rfl,hb⟩;have HZ:zd ((M.take (k+1)).any (λL:List Rat=> !decide (((L.length:Nat):Int)=z))=false):=by show _=_;rw [j.o,m.o];rfl
    have a:=zb (zc HB.o hb);clear hb c hc HC;go_wp2;go_roundg (n - k)
    case measure=>omega
    case rel=>exact⟨k+1,za,za,by go_num,HZ,a.o⟩
   ·go_wp2_with fail;refine(HC _ HB.o).o.mono ?_;rintro e w3 ⟨rfl,hb⟩;have HZ:=zb (i.o (by first|rfl|trivial));have a:=zb (zc HB.o hb);clear hb c hc HC;go_wp2;go_ret;exact⟨(k:Int),rfl,by rw [HZ.o];exact decide_eq_true za,a.o⟩
  ·have o:decide ((k:Int)<(n:Int))=false:=decide_eq_false za;have HF:zd (M.any (λL:List Rat=> !decide (((L.length:Nat):Int)=z))=false):=by
    have h1:=m.o;rw [qV (by have:=HL.o;omega)] at h1;exact h1
   have a:=zb hB;clear hB;go_wp2;go_ret;exact⟨-1,rfl,by rw [HF.o];rfl,a.o⟩
theorem Rf {q:Nat}(h:xi (zZ zp) w Q n M)(hk:zh w gc 3 #[.int .i64 z])(hn:n<=1048576):
  Calls prog 69 #[.slice Q n q,.func (.func 67) #[] #[.pointer (some ⟨gc,0,none⟩)]] w (λe w'=>e=.returned (.bool (sv M z))/\Below w.heap.size w w'):=by
 have H:=zb (RY (q:=q) h hk hn);obtain⟨b,hb⟩:∃b,sv M z=b:=⟨_,rfl⟩;rw [hb] at H⊢;clear h hk hb;go_enter func69,ntmps69;go_wp2_with fail;refine H.o.mono ?_;rintro e w1 ⟨k,rfl,hk,hb⟩;have hk2:decide (0<=k)=b:=hk;have HB:=zb hb;clear hb;go_wp2;go_ret;exact⟨rfl,HB.o⟩
section
variable {Q:ze}{n q:Nat}{M:List (List Rat)}{z:Int}{w:World}
theorem Wv {m K:Nat}(hT:zu w)(h:xi (zZ zp) w Q n M)(hd:zQ M n m)(hn:n<=64)(hm:m<=64)(z:yc K M)(hK:K+2<=67108864:=by omega):Calls prog 24 #[.int .i64 (m:Int),.slice Q n q] w (Yn w n m M):=by
 have hmf:=Wu;obtain⟨k,a,o,t,bz⟩:=yF w 3 26 28 #[.int .i64 (m:Int)] #[.slice Q n q] #[.slice none 0 0,.int .i64 0];have H:=λW=>zb (pB (TZ hn hm) W);have hc:=Rf (q:=q) (h.below (yk yt) k) a za;rw [qk hd] at hc;have HC:=zb hc;have HM:zd (∀W,Below w.heap.size w W->zh W (w.heap.size+1) 26 #[.slice Q n q]->Calls prog 70 #[.int .i64 (n:Int),.int .i64 (m:Int),.func (.func 71) #[] #[.pointer (some ⟨w.heap.size+1,0,none⟩)]] W (sW W n m M)):=λW hW hk=>by
  have hh:=h.below (yk yt) hW;have q9:=TY (K:=K) (zn M) 71 #[.pointer (some ⟨w.heap.size+1,0,none⟩)] n m W (hT.on hW) ⟨jT,λr c hr hc w' hb=>fP (hh.below (yk yt) hb) hd (zg hb hk) hr hc⟩ (λr c hr hc=>z.at_ hd hr hc) hn hm hK;rw [hd.eq] at q9;exact q9
 have HK:=zb t;have HS:=zb o;have HB:=zb k;have y0:=a.c1;have y1:=o.c1;have hl0:=a.lt;have s:=zb a;clear k a o t bz hT h z hd hc;go_enter func24,ntmps24;go_wp2_with fail;refine(H _).o.mono ?_;rintro e w1 ⟨rfl,rfl⟩;go_wp2_with fail;refine HC.o.mono ?_;rintro e w1 ⟨rfl,hb⟩;have g:=zb (zc HB.o hb);have i:=zb (zg hb HK.o);have j:=zb (zg hb HS.o);have y0:=(zg hb s.o).c1;have y1:=j.o.c1;clear hb HB HK HS s HC H;go_wp2_with fail;refine(HM.o _ g.o j.o).mono ?_;clear y0 y1;rintro e w3 ⟨A3,c3,rfl,y,u,hb⟩;have d:=zg hb i.o;obtain⟨sc0,sf0,sc1,sf1⟩:=vh d (.slice A3 n c3);obtain⟨r0,r1⟩:=(vg d (.slice A3 n c3) (.int .i64 (m:Int))).c2;have HG:=zb (fU y (λad e=>qJ i.o.lt (u ad e)) d (zc g.o hb) za);clear hb d y u i g HM j;go_wp2;refine bodyPost_ret (v:=.tuple #[.agg #[.slice A3 n c3,.int .i64 (m:Int)],.bool true]) (by simp [results,results24,go_sem,r0,r1]) rfl ?_;exact HG.o
end
theorem Ov {k:IntKind}{l:List Nat}(h:zL w w.heap.size 1 A n (zt k l))(hp:w.cell? p=some (.slice B m d))(u:Value):zL (w.setCell p u) (w.setCell p u).heap.size 1 A n (zt k l):=by
 refine⟨h.1,λhn=>?_⟩;obtain⟨ad,e,hb,hc⟩:=h.2 hn;refine⟨ad,e,by simpa using hb,λj v hv=>?_⟩;have h0:=hc j v hv;rw [yY w p (ad.add j) u (λe2=>?_)]
 ·exact h0
 ·have hm:=QY hv;unfold zt at hm;obtain⟨z,_,rfl⟩:=List.mem_map.1 hm
  first
   |rw [e2,hp] at h0;cases h0
   |rw [<-e2,hp] at h0;cases h0
theorem VN (h:zE w x A n c)(hp:w.cell? p=some (.slice B m d))(u:Value):zE (w.setCell p u) x A n c:=⟨Ov h.1 hp u,h.2⟩
theorem Nm {r:Rat}(h:xd w r b A n c E k f)(hp:w.cell? p=some (.slice B m d))(u:Value):xd (w.setCell p u) r b A n c E k f:=⟨⟨h.1.1,VN h.1.2 hp u⟩,VN h.2 hp u⟩
theorem iL (h:re w A n c xs)(hk:zh w g t cs)(hs:∀u ∈ cs.toList,∀b,u≠.bool b)(hp:w.cell? ⟨g,i,none⟩=some (.slice B m d))(u:Value):re (w.setCell ⟨g,i,none⟩ u) A n c xs:=
 cT h hk hs (yl.of_far ((xg.refl g w).set_ i u)) (λh5=>Nm h5 hp u)
theorem Ny (h:zE w x A n c)(k:zh w f t #[.slice none 0 0,.int .i64 0])(hn:0<n):∀ad,A=some ad->ad.block≠f:=by
 intro ad e hf;obtain⟨ad',e',_,hc⟩:=wQ h.1 (k:=n - 1) za;rw [e] at e';injection e' with e';subst e';have hm:Value.int .i64 (((dg 65536 x).getD (n - 1) 0:Nat):Int)∈(#[.slice none 0 0,.int .i64 0]:Array Value).toList:=by
  have hb:(ad.add (n - 1)).block=f:=by rw [yw];exact hf
  generalize ad.add (n - 1)=q at hb hc;obtain⟨bk,off,pr⟩:=q;simp only at hb;subst hb;unfold zh at k;cases pr with
  |none=>
    rw [show w.cell? ⟨bk,off,none⟩=_ from cell_of_row w bk off _ t (0,0) k,<-QR] at hc;exact QY hc
  |some q=>simp [World.cell?,k] at hc
 have hx:x≠0:=λhx=>by have:=Y7 h hx;omega
 have hl:=h.len;have hv:=vw (b:=65536) zf x;have hg:=(jA (b:=65536) zf x hx).2;have ht:=uv 65536 (dg 65536 x) (n - 1);have hd:=vy (b:=65536) (l:=(dg 65536 x).take (n - 1)) (λd hd=>uA zf x d (XZ hd));rw [qL,<-hl,xG za] at hd;rw [show n - 1+1=n by omega,qV za,hv] at ht;rw [<-hl] at hg;have hz:(dg 65536 x).getD (n - 1) 0=0:=by
  simp only [List.mem_cons,jK,or_false] at hm;rcases hm with hm|hm
  ·cases hm
  ·injection hm with _ hm;omega
 rw [hz,yD] at ht;omega
theorem VK (h:zE w x A n c)(k:zh w f t #[.slice none 0 0,.int .i64 0])(ho:xg f w w'):zE w' x A n c:=by
 have a:=Ny h k;refine⟨⟨h.1.1,λhn=>?_⟩,h.2⟩;obtain⟨ad,e,hb,hc⟩:=h.1.2 hn;refine⟨ad,e,by rw [ho.1];exact hb,λj v hv=>?_⟩;rw [ho.2 (ad.add j) (by rw [yw];exact a hn ad e)];exact hc j v hv
theorem Ux {r:Rat}{u v:Nat}(h:xd w r b A n c E u v)(k:zh w f t #[.slice none 0 0,.int .i64 0])(ho:xg f w w'):xd w' r b A n c E u v:=⟨⟨h.1.1,VK h.1.2 k ho⟩,VK h.2 k ho⟩
theorem od (h:re w A n c xs)(hk:zh w g t #[.slice none 0 0,.int .i64 0])(x y:Value):re ((w.setCell ⟨g,0,none⟩ x).setCell ⟨g,1,none⟩ y) A n c xs:=
 cT h hk (sS _ _ _ _) (yl.of_far (tO _ _ _ _)) (λh5=>Ux h5 hk (tO _ _ _ _))
theorem xe.slot {α:Type}{R:RP α}{Ls:List (List α)}{g i:Nat}{u:Value}(h:xe R w a t v Ls vs)(hg:g<a)(c:∀{B:ze} {m d:Nat} {L:List α},R w B m d L->R (w.setCell ⟨g,i,none⟩ u) B m d L):xe R (w.setCell ⟨g,i,none⟩ u) a t v Ls vs:=by
 refine⟨⟨h.own.1,?_⟩,h.sl.block (λg' e=>Below.heap_setCell _ _ _ _ ?_),λj L hj=>?_⟩
 ·rcases h.own.2 with h1|⟨g',cap,cur,e1,e2,e3,e4⟩
  ·exact .inl h1
  ·exact .inr ⟨g',cap,cur,e1,e2,(Below.heap_setCell w ⟨g,i,none⟩ u g' (by show g'≠g;omega)).trans e3,e4⟩
 ·have:=(h.own.lt g' e).1;show g'≠g;omega
 ·obtain⟨B,d,hv,hw⟩:=h.num j L hj;exact⟨B,d,hv,c hw⟩
structure xj (w:World)(A:ze)(n c m:Nat)(M:List (List Rat)):Prop where
 dims:zQ M n m
 fits:n<=c
 most:c<=9223372036854775807
 hn:n<=64
 hm:m<=64
 rows:xi (zZ xd) w A n M
 ty:∀ad,A=some ad->sm w ad.block 78
theorem xj.keep {w':World}(h:xj w A n c m M)(hb:Below w.heap.size w w'):xj w' A n c m M:={h with rows:=h.rows.below (yk wf) hb,ty:=λad e=>(h.ty ad e).below hb}
theorem xj.nil (w:World)(m:Nat)(h:m<=64):xj w none 0 0 m []:=⟨Ty m,qX _,zf,zf,h,xi.nil w none,λad e=>by cases e⟩
theorem xj.offz (h:xj w A n c m M)(hk:zh w g t #[.slice none 0 0,.int .i64 0])(x y:Value)(ht:78≠t:=by decide):xj ((w.setCell ⟨g,0,none⟩ x).setCell ⟨g,1,none⟩ y) A n c m M:=
 { h with
  rows:=h.rows.off (λad e=>(h.ty ad e).ne hk ht) (yl.of_far (tO _ _ _ _)) (λh3=>od h3 hk x y)
  ty:=λad e=>((h.ty ad e).set_ _ _ _).set_ _ _ _}
theorem xj.slot {g:Nat}{p q:Nat}(h:xj w A n c m M)(hk:zh w g t #[.slice B p q,.int .i64 z])(u:Value)(ht:78≠t:=by decide):xj (w.setCell ⟨g,0,none⟩ u) A n c m M:=
 { h with
  rows:=h.rows.off (λad e=>(h.ty ad e).ne hk ht) (yl.of_far (pL _ _ _)) (λh3=>iL h3 hk (sS _ _ _ _) (hk.cell 0) u)
  ty:=λad e=>(h.ty ad e).set_ _ _ _}
theorem xj.row (h:xj w A n c m M)(hb:Below w.heap.size w wr){i:Nat}(hi:i<n):∃(ad:Addr) (B:ze) (d:Nat),A=some ad/\ad.block<w.heap.size/\wr.cell? (ad.add i)=some (.slice B m d)/\re wr B m d (M.getD i []):=
 h.rows.get (yk wf) hb hi (h.dims.row hi)
theorem xj.place (h:xj w A n c m M)(hb:Below w.heap.size w wr){i j:Nat}(hi:i<n)(hj:j<m):∃(ad:Addr) (B:ze) (d:Nat),A=some ad/\ad.block<w.heap.size/\wr.cell? (ad.add i)=some (.slice B m d)/\
  ∃(ae:Addr) (b1:Bool) (B1:ze) (m1 d1:Nat) (E1:ze) (u1 v1:Nat),B=some ae/\ae.block<wr.heap.size/\wr.cell? (ae.add (j*3))=some (.bool b1)/\wr.cell? ⟨(ae.add (j*3)).block,(ae.add (j*3)).off+1,none⟩=some (.slice B1 m1 d1)/\wr.cell? ⟨(ae.add (j*3)).block,(ae.add (j*3)).off+2,none⟩=some (.slice E1 u1 v1)/\xd wr (zn M i j) b1 B1 m1 d1 E1 u1 v1:=by
 obtain⟨ad,B,d,e,h1,h2,h3⟩:=h.row hb hi;obtain⟨ae,b1,B1,m1,d1,E1,u1,v1,e4,h4,h5,h6,h7,h8⟩:=h3.get (qZ _ _) hj;exact⟨ad,B,d,e,h1,h2,ae,b1,B1,m1,d1,E1,u1,v1,e4,h4,h5,h6,h7,h8⟩
theorem xe.refm {n:Nat}(h:xe (zZ xd) w a 78 v M vs)(hd:zQ M n m)(hn:n<=64)(hm:m<=64):∃A c,v=.slice A n c/\xj w A n c m M:=by
 obtain⟨A,c,rfl,h1,h2,h3,h4⟩:=h.shape hd.rows;refine⟨A,c,rfl,hd,h1,h2,hn,hm,h3,λad e=>?_⟩;subst e;rcases h.own.2 with⟨e1,h0⟩|⟨g,cap,cur,e1,e2,e3,e4⟩
 ·cases e1
 ·injection e1 with e1 _ _;injection e1 with e1;subst e1;exact⟨cur,e3⟩
def km (w:World)(n m:Nat)(M:List (List Rat))(e:Ending)(w':World):Prop:=∃(A:ze) (c:Nat),e=.returned (.agg #[.slice A n c,.int .i64 (m:Int)])/\xj w' A n c m M/\Below w.heap.size w w'
theorem jW {W:World}(h:xj W A n c m M)(k:zh W g 33 #[.slice none 0 0,.int .i64 0])(hB:Below w.heap.size w W)(hg:w.heap.size<=g):
  km w n m M (.returned (.agg #[.slice A n c,.int .i64 (m:Int)])) ((W.setCell ⟨g,0,none⟩ (.slice A n c)).setCell ⟨g,1,none⟩ (.int .i64 (m:Int))):=
 ⟨A,c,rfl,h.offz k _ _,nS _ _ hg hB⟩
theorem Y8:(prog.info? 78).map (λi=>(i.zero,i.size,i.bytes))=some (some (.slice none 0 0),1,24):=zU
def fM (t:TypeId)(cs:Array Value):Prop:=cs=#[.slice none 0 0,.int .i64 0]/\58≠t/\78≠t
def FM (n m:Nat)(M:List (List Rat))(v:Value)(w:World):Prop:=∃(A:ze) (c:Nat),v=.agg #[.slice A n c,.int .i64 (m:Int)]/\wG w A n c m M
def bM (n m:Nat)(M:List (List Rat))(v:Value)(w:World):Prop:=∃(A:ze) (c:Nat),v=.agg #[.slice A n c,.int .i64 (m:Int)]/\xj w A n c m M
theorem sm.sto {b:Nat}{s:TypeId}(h:sm w b t)(hk:zh w g s cs)(hn:t≠s)(hs:su g w w'):sm w' b t:=by
 have:=h.ne hk hn;obtain⟨c,hc⟩:=h;exact⟨c,hs.2.1 _ _ _ this hc⟩
theorem fX (n m:Nat)(M:List (List Rat)):Kf fM (FM n m M):=⟨λv w w' hb ⟨A,c,e,h⟩=>⟨A,c,e,h.keep hb⟩,λv w w' g t cs hB hk hf ⟨A,c,e,h⟩=>by
 obtain⟨rfl,h1,h2⟩:=hB;exact ⟨A,c,e,{ h with
  rows:=h.rows.off (λad e=>(h.ty ad e).ne hk h1) (yl.of_far hf.1) (λh3=>Xy h3 hk (sS _ _ _ _) (Wr _ _ _ _) (yl.of_far hf.1))
  ty:=λad e=>(h.ty ad e).sto hk h1 hf}⟩⟩
theorem ia (n m:Nat)(M:List (List Rat)):Kf fM (bM n m M):=⟨λv w w' hb ⟨A,c,e,h⟩=>⟨A,c,e,h.keep hb⟩,λv w w' g t cs hB hk hf ⟨A,c,e,h⟩=>by
 obtain⟨rfl,h1,h2⟩:=hB;exact ⟨A,c,e,{ h with
  rows:=h.rows.off (λad e=>(h.ty ad e).ne hk h2) (yl.of_far hf.1) (λh3=>cT h3 hk (sS _ _ _ _) (yl.of_far hf.1) (λh5=>Ux h5 hk hf.1))
  ty:=λad e=>(h.ty ad e).sto hk h2 hf}⟩⟩
instance (n m:Nat)(M:List (List Rat)):Kf fM (FM n m M):=fX n m M
instance (n m:Nat)(M:List (List Rat)):Kf fM (bM n m M):=ia n m M
