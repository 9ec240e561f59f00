/- What this claim leans on. -/
import Derived.Test.YtielpgdebeggbaaGreatDoorMMMul
set_option linter.unusedVariables false
set_option linter.unusedSimpArgs false
namespace Go.Proofs.YtielpgdebeggbaaGreatDoor
open Go Go.RowKit Go.Proofs.Tryz
set_option maxHeartbeats 16000000
variable {ad:Addr}{Ls S:List (List Rat)}{ld:List Nat}{vs:List Value}{K c d gc i j k m n:Nat}{M a0:Nat->Nat->Rat}{p:Rat}{t:TypeId}{w:World}
def z7 (M:Nat->Nat->Rat)(k:Nat)(v:Nat->Rat):Nat->Nat->Rat:=λi j=>if i=k then v j else M i j
theorem ZK (M:Nat->Nat->Rat)(v:Nat->Rat)(c:Nat):xo (z7 M 0 v) c=xo M c:=by
 funext i j;unfold xo z7;rw [if_neg za]
theorem eM (M:Nat->Nat->Rat)(k:Nat)(v:Nat->Rat)(c:Nat):xo (z7 M (k+1) v) c=z7 (xo M c) k λj=>v (y3 c j):=by
 funext i j;unfold xo z7
 by_cases e:i=k
 ·rw [if_pos e,if_pos za]
 ·rw [if_neg e,if_neg za]
theorem ez:∀{n:Nat} (M:Nat->Nat->Rat) {k:Nat} (_:k<n) (a b:Rat) (u v:Nat->Rat),zB n (z7 M k λj=>a*u j+b*v j)=a*zB n (z7 M k u)+b*zB n (z7 M k v)
 |0,M,k,hk,_,_,_,_=>by omega
 |n+1,M,0,hk,a,b,u,v=>by
   rw [vA,vA,vA,wJ,wJ,<-sx];refine zU λc _=>?_;rw [ZK,ZK,ZK];show sg c*(a*u c+b*v c)*_=a*(sg c*u c*_)+b*(sg c*v c*_)
   grind
 |n+1,M,k+1,hk,a,b,u,v=>by
   rw [vA,vA,vA,wJ,wJ,<-sx];refine zU λc _=>?_;rw [eM,eM,eM,ez (xo M c) za a b];have e:∀w:Nat->Rat,z7 M (k+1) w 0 c=M 0 c:=λw=>by unfold z7;rw [if_neg za]
   rw [e,e,e]
   grind
theorem Pf (k:Nat)(f:Nat->Rat):zt (k+1) f=f 0+zt k λi=>f (i+1):=by
 induction k with
 |zero=>rw [x4];show(0:Rat)+f 0=f 0+0;grind
 |succ k ih=>rw [x4,ih,x4];grind
theorem lp (h:d<=c):y3 (c+1) (y3 d j)=y3 d (y3 c j):=by
 unfold y3;by_cases h1:j<d
 ·rw [if_pos h1,if_pos (by omega:j<c),if_pos za,if_pos h1]
 ·rw [if_neg h1];by_cases h2:j<c
  ·rw [if_pos h2,if_pos za,if_neg h1]
  ·rw [if_neg h2,if_neg za,if_neg za]
theorem UE (h:∀j,M 0 j=M 1 j):zB (n+2) M=0:=by
 obtain⟨g,hg⟩:∃g:Nat->Nat->Rat,∀c d,g c d=sg c*M 0 c*(sg d*M 1 (y3 c d)*zB n (xo (xo M c) d)):=⟨_,λ_ _=>rfl⟩;have e1:zB (n+2) M=zt (n+2) λc=>zt (n+1) λd=>g c d:=by
  rw [vA];refine zU λc _=>?_;rw [vA,wJ];exact zU λd _=>(hg c d).symm
 have a:∀c d,d<=c->g (c+1) d= -g d c:=λc d hd=>by
  rw [hg,hg];have s1:y3 (c+1) d=d:=by unfold y3;rw [if_pos za]
  have s2:y3 d c=c+1:=by unfold y3;rw [if_neg za]
  have s3:xo (xo M (c+1)) d=xo (xo M d) c:=by
   funext i j;unfold xo;rw [lp hd]
  rw [s1,s2,s3,h (c+1),h d,TK]
  grind
 have e2:∀c d,g c d=(if d<c then g c d else 0)+(if d<c then 0 else g c d):=λc d=>by
  by_cases q:d<c
  ·rw [if_pos q,if_pos q,xY]
  ·rw [if_neg q,if_neg q,YQ]
 have e3:(zt (n+2) λc=>zt (n+1) λd=>g c d)=(zt (n+2) λc=>zt (n+1) λd=>if d<c then g c d else 0)+zt (n+2) λc=>zt (n+1) λd=>if d<c then 0 else g c d:=by
  rw [<-sx];refine zU λc _=>?_;rw [<-sx];exact zU λd _=>e2 c d
 have e4:(zt (n+2) λc=>zt (n+1) λd=>if d<c then g c d else 0)=zt (n+1) λc=>zt (n+1) λd=>if d<=c then g (c+1) d else 0:=by
  rw [Pf,vS λd _=>by rw [if_neg za],YQ];exact zU λc _=>zU λd _=>by
   by_cases q:d<=c
   ·rw [if_pos q,if_pos za]
   ·rw [if_neg q,if_neg za]
 have e5:(zt (n+2) λc=>zt (n+1) λd=>if d<c then 0 else g c d)=zt (n+1) λd=>zt (n+1) λc=>if c<=d then g c d else 0:=by
  rw [iO];refine zU λd hd=>?_;rw [x4,if_pos za,xY];exact zU λc _=>by
   by_cases q:c<=d
   ·rw [if_pos q,if_neg za]
   ·rw [if_neg q,if_pos za]
 rw [e1,e3,e4,e5,<-sx];refine vS λc _=>?_;rw [<-sx];refine vS λd _=>?_;by_cases q:d<=c
 ·rw [if_pos q,if_pos q,a c d q];grind
 ·rw [if_neg q,if_neg q];grind
theorem Yn (M:Nat->Nat->Rat)(k:Nat)(v:Nat->Rat)(j:Nat):z7 M k v k j=v j:=if_pos rfl
theorem gE (M:Nat->Nat->Rat){k i:Nat}(h:i≠k)(v:Nat->Rat)(j:Nat):z7 M k v i j=M i j:=if_neg h
theorem ZP {l:Nat}(h:k≠l)(u v:Nat->Rat):z7 (z7 M k u) l v=z7 (z7 M l v) k u:=by
 funext i j
 unfold z7;by_cases e:i=l
 ·rw [if_pos e,if_neg za,if_pos e]
 ·rw [if_neg e,if_neg e]
theorem pZ {n k l:Nat}(hk:k<n)(hl:l<n)(d:k≠l)(same:∀M:Nat->Nat->Rat,(∀j,M k j=M l j)->zB n M=0)(M:Nat->Nat->Rat)(u v:Nat->Rat):zB n (z7 (z7 M k u) l v)= -zB n (z7 (z7 M k v) l u):=by
 have s:∀w:Nat->Rat,zB n (z7 (z7 M k w) l w)=0:=λw=>same _ λj=>by rw [Yn,gE _ d,Yn]
 have e1:∀a x y:Nat->Rat,zB n (z7 (z7 M k a) l λj=>1*x j+1*y j)=1*zB n (z7 (z7 M k a) l x)+1*zB n (z7 (z7 M k a) l y):=λa x y=>ez _ hl 1 1 x y;have e2:∀b x y:Nat->Rat,zB n (z7 (z7 M k λj=>1*x j+1*y j) l b)=1*zB n (z7 (z7 M k x) l b)+1*zB n (z7 (z7 M k y) l b):=λb x y=>by
  rw [ZP d,ZP d,ZP d];exact ez _ hk 1 1 x y
 have h1:=s λj=>1*u j+1*v j;rw [e1,e2,e2,s u,s v] at h1
 grind
theorem iM:∀{n:Nat} {M:Nat->Nat->Rat} {k l:Nat},k<l->l<n->(∀j,M k j=M l j)->zB n M=0
 |0,_,_,_,_,h,_=>by omega
 |n+1,M,k+1,l,hkl,hl,h=>by
   rw [vA];refine vS λc _=>?_;obtain⟨l',rfl⟩:∃q,l=q+1:=⟨l - 1,za⟩;rw [iM (n:=n) (M:=xo M c) (k:=k) (l:=l') za za λj=>h _,xL]
 |n+1,M,0,l,hkl,hl,h=>by
   obtain⟨n',rfl⟩:∃q,n=q+1:=⟨n - 1,za⟩;by_cases e:l=1
   ·subst e;exact UE h
   ·-- rows 1 and l are exchanged:below the first row all rows are known
    have e1:zB (n'+2) M= -zB (n'+2) (z7 (z7 M 1 (M l)) l (M 1)):=by
     rw [vA,vA,<-Ya];refine zU λc _=>?_;obtain⟨l',rfl⟩:∃q,l=q+1:=⟨l - 1,za⟩;have f1:z7 (z7 M 1 (M (l'+1))) (l'+1) (M 1) 0 c=M 0 c:=by rw [gE _ za,gE _ za]
     have f2:xo (z7 (z7 M (0+1) (M (l'+1))) (l'+1) (M 1)) c=z7 (z7 (xo M c) 0 λj=>M (l'+1) (y3 c j)) l' λj=>M 1 (y3 c j):=by rw [eM,eM]
     have f3:xo M c=z7 (z7 (xo M c) 0 λj=>M 1 (y3 c j)) l' λj=>M (l'+1) (y3 c j):=by
      funext i j
      unfold z7;by_cases q1:i=l'
      ·rw [if_pos q1,q1];rfl
      ·rw [if_neg q1];by_cases q2:i=0
       ·rw [if_pos q2,q2];rfl
       ·rw [if_neg q2]
     have f4:=pZ (n:=n'+1) (k:=0) (l:=l') za za za (λN hN=>iM (n:=n'+1) (M:=N) (k:=0) (l:=l') za za hN) (xo M c) (λj=>M 1 (y3 c j)) (λj=>M (l'+1) (y3 c j));rw [<-f3] at f4;rw [f1,f2,f4]
     grind
    rw [e1,UE (M:=z7 (z7 M 1 (M l)) l (M 1)) λj=>by
     rw [gE _ za,gE _ za,gE _ za,Yn];exact h j,Rat.neg_zero]
theorem Pr (n:Nat)(M:Nat->Nat->Rat):zB n (λi j=>M j i)=zB n M:=by
 have ha:uE n λM=>zB n λi j=>M j i:=⟨λM N e=>vQ λi hi j hj=>e j hj i hi,λM k hk a b u v=>by
   show zB n _=_;have e:∀w:Nat->Rat,(λi j=>zP M k w j i)=z7 (λi j=>M j i) k w:=λw=>rfl;rw [e,e,e];exact ez _ hk a b u v,λM k l hk hl d e=>by
   show zB n (λi j=>M j i)=0;have e2:zB n (λi j=>M j i)=zB n λi j=>if j<n then M j i else 0:=vQ λi _ j hj=>by rw [if_pos hj]
   rw [e2];rcases XV k l with a|a|a
   ·exact iM a hl λj=>by
     by_cases q:j<n
     ·rw [if_pos q,if_pos q];exact e j q
     ·rw [if_neg q,if_neg q]
   ·exact absurd a d
   ·exact iM a hk λj=>by
     by_cases q:j<n
     ·rw [if_pos q,if_pos q];exact(e j q).symm
     ·rw [if_neg q,if_neg q]⟩
 have h1:=ha.one_ (uE.det_ n) M;have h2:(λi j=>wP j i)=wP:=by
  funext i j;unfold wP
  by_cases e:i=j
  ·rw [if_pos e,if_pos e.symm]
  ·rw [if_neg e,if_neg (Ne.symm e)]
 rw [Z3,Rat.mul_one] at h1;have h3:zB n (λi j=>M j i)=zB n M*zB n (λi j=>wP j i):=h1;rw [h3,h2,Z3,Rat.mul_one]
set_option maxRecDepth 100000
section
variable {w:World}
theorem qk:∀(args:Array Value) (w':World),Sem.run prog (callFunc 134 args) w'=.ok (.enter 134 args) w':=Go.Proofs.enters_of func134 yd rfl
theorem nS {V:ze}{L:List Rat}(hT:zu w)(hk:zh w gc 3 #[.int .i64 (c:Int)])(hv:zR w V m d L)(hc:c<m)(hz:zD K L)(hK:K<=67108864:=by omega):
  Calls prog 134 #[.slice V m d,.pointer (some ⟨gc,0,none⟩)] w (λe w'=>e=.returned (.bool (!decide (L.getD c 0=0)))/\Below w.heap.size w w'):=by
 have g0:=hk.c1;have HS:=zb (hz.at_ (k:=c) (by rw [hv.len];exact hc));obtain⟨ad,b1,B1,m1,d1,E1,u1,v1,rfl,-,h0,h1,h2,hx⟩:=hv.get (qZ _ _) hc;have i1:(0:Int)<=(c:Int):=za;have i2:(c:Int)<(m:Int):=za;have i3:c<m:=hc;generalize L.getD c 0=x at*;obtain⟨t,ht⟩:∃t,decide (x=0)=t:=⟨_,rfl⟩;rw [ht];have a:=zb (dG ht hT hx HS.o hK);clear hk hv hz hx hc hT ht;go_enter func134,ntmps134;go_wp2_with fail;clear h0 h1 h2 g0;refine a.o.mono ?_;rintro eo w1 ⟨rfl,hb⟩;have HB:=zb hb;clear hb a;go_wp2;go_ret;exact⟨rfl,HB.o⟩
def uj (c:Nat)(Ls:List (List Rat)):Int:=if Ls.findIdx (λrow=> !decide (row.getD c 0=0))<Ls.length then((Ls.findIdx (λrow=> !decide (row.getD c 0=0)):Nat):Int) else -1
theorem Tj (hk:k<Ls.length)(h0:∀j,j<k->(Ls.getD j []).getD c 0=0)(h1:(Ls.getD k []).getD c 0≠0):uj c Ls=(k:Int):=by
 have e:Ls.findIdx (λrow=> !decide (row.getD c 0=0))=k:=by
  rw [List.findIdx_eq hk];have hg:∀j (hj:j<Ls.length),Ls.getD j []=Ls[j]:=λj hj=>by rw [qQ,qY hj];rfl
  refine⟨by rw [hg k hk] at h1;simpa using h1,λj hj=>?_⟩;have:=h0 j hj;rw [hg j za] at this;simpa using this
 unfold uj;rw [e,if_pos hk]
theorem Op {x:Rat}(h:(!decide (x=0))=true):x≠0:=by simpa using h
theorem V8 (h0:∀j,j<Ls.length->(Ls.getD j []).getD c 0=0):uj c Ls= -1:=by
 unfold uj;rw [if_neg];intro h;have h1:=List.findIdx_getElem (p:=λrow:List Rat=> !decide (row.getD c 0=0)) (xs:=Ls) (w:=h);have h2:=h0 _ h;rw [qQ (l:=Ls),qY h] at h2;exact Op h1 h2
theorem Vi {z q:Nat}{Q:ze}{M:List (List Rat)}(hT:zu w)(h:yx (VZ z) w Q n M)(hk:zh w gc 3 #[.int .i64 (c:Int)])(hc:c<m)(hd:∀L ∈ M,L.length=m)(hz:zW K M)(hn:n<=1048576)(hK:K<=67108864:=by omega):
  Calls prog 88 #[.slice Q n q,.func (.func 134) #[] #[.pointer (some ⟨gc,0,none⟩)]] w (λe w'=>e=.returned (.int .i64 (uj c M))/\Below w.heap.size w w'):=by
 have hl:=h.len;have HR:=zb h;have HT:=zk w (λw' hb=>hT.on hb);have HK:=zk w (λw' hb=>zg hb hk);have HD:zd (∀k,k<n->(M.getD k []).length=m):=λk hk=>hd _ (QX (ws za));have HZ:zd (∀k,k<n->zD K (M.getD k [])):=λk hk=>hz.row za;have HI:zd (∀k,k<n->(∀j,j<k->(M.getD j []).getD c 0=0)->(M.getD k []).getD c 0≠0->uj c M=(k:Int)):=λk hk=>Tj za;have HN:zd ((∀j,j<n->(M.getD j []).getD c 0=0)->uj c M= -1):=λh0=>V8 (by rw [hl];exact h0);have hEn:=qk;have hB:=qZ w.heap.size w;have i0:(0:Int)<=(n:Int):=za;have HC:=zb hc;obtain⟨zi,y⟩:∃zi,uj c M=zi:=⟨_,rfl⟩;rw [y] at HI HN⊢;clear h hk hl hd hz hT hc y;go_enter func88,ntmps88;go_wp2_with fail
 go_loopg [8] (n+1) (λg ix wr=>∃(k:Nat),k<=n/\n<g+k/\ix=.int .i64 k/\zd (∀j,j<k->(M.getD j []).getD c 0=0)/\Below w.heap.size w wr)
 case atStart=>exact⟨0,qM _,za,rfl,λj hj=>(by cases hj),hB⟩
 case round=>
  clear hB;obtain⟨k,hkn,hg,rfl,u,hB⟩:=hrel;by_cases hlt:k<n
  ·have D:decide ((k:Int)<(n:Int))=true:=decide_eq_true za;have i1:(0:Int)<=(k:Int):=za;have i2:(k:Int)<(n:Int):=za;obtain⟨ad,B,d,rfl,-,v,hv⟩:=HR.o.get (vf z) hB hlt (HD.o k hlt);have C:=zb (HZ.o k hlt);have s:=zb (HI.o k hlt u.o);have HB:=zb hB;have t:zd ((M.getD k []).getD c 0=0->∀j,j<k+1->(M.getD j []).getD c 0=0):=λe j hj=>by
    rcases xG j k with a|a
    ·exact u.o j a
    ·rw [show j=k by omega];exact e
   have i:=zb (nS (HT.o _ hB) (HK.o _ hB) hv.1 HC.o C.o hK);clear hB hv;by_cases h0:(M.getD k []).getD c 0=0
   ·have A:=zb (t.o h0);have i:=i.o;rw [h0,show(!decide ((0:Rat)=0))=false from rfl] at i;have i:=zb i;clear h0 t s;go_wp2_with fail;refine i.o.mono ?_;rintro eo w3 ⟨rfl,hb⟩;have o:=zb (zc HB.o hb);clear hb v;go_wp2;go_roundg (n - k)
    case measure=>omega
    case rel=>exact⟨k+1,za,za,by go_num,A.o,o.o⟩
   ·have HE:=zb (s.o h0);have i:=i.o;rw [decide_eq_false h0,show(!false)=true from rfl] at i;have i:=zb i;clear h0 t s;go_wp2_with fail;refine i.o.mono ?_;rintro eo w3 ⟨rfl,hb⟩;have o:=zb (zc HB.o hb);clear hb v;go_wp2;go_ret;exact⟨by rw [HE.o];rfl,o.o⟩
  ·have E:k=n:=za;subst E;have D:decide ((k:Int)<(k:Int))=false:=zF;have HE:=zb (HN.o u.o);have o:=zb hB;clear hB;go_wp2;go_ret;exact⟨by rw [HE.o];rfl,o.o⟩
end
theorem yx.drop_ {α:Type}{R:RP α}{A:ze}{r:Nat}{Ls:List (List α)}(h:yx R w A n Ls)(hr:r<=n):yx R w (Option.map (λx=>x.add r) A) (n - r) (Ls.drop r):=by
 refine⟨by rw [QE,h.len],λi L hi=>?_⟩;rw [yE] at hi;obtain⟨ad,B,d,rfl,h1,h2,h3⟩:=h.num _ L hi;exact⟨_,B,d,rfl,by rw [y4];exact h1,by rw [kk];exact h2,h3⟩
def vj (r c:Nat)(p:Rat)(S:List (List Rat))(i:Nat):List (List Rat):=S.mapIdx λj row=>if j=r\/i<=j then row else sB p row (S.getD r []) c
theorem jG (r c:Nat)(p:Rat)(S:List (List Rat))(i:Nat):(vj r c p S i).length=S.length:=by unfold vj;rw [List.length_mapIdx]
theorem jN {r:Nat}(hj:j<S.length):(vj r c p S i)[j]?=some (if j=r\/i<=j then S.getD j [] else sB p (S.getD j []) (S.getD r []) c):=by
 unfold vj;rw [List.getElem?_mapIdx,qY hj];show some (if j=r\/i<=j then _ else _)=_;rw [show S.getD j []=S[j] by rw [qQ,qY hj];rfl]
theorem VX {r:Nat}(hj:j<S.length):(vj r c p S i).getD j []=if j=r\/i<=j then S.getD j [] else sB p (S.getD j []) (S.getD r []) c:=by
 rw [qQ,jN hj];rfl
theorem Qd (r c:Nat)(p:Rat)(S:List (List Rat)):vj r c p S 0=S:=by
 apply List.ext_getElem?;intro j;rcases xG j S.length with h|h
 ·rw [jN h,if_pos (Or.inr (qM _)),ws h]
 ·rw [qN (by rw [jG];exact h),qN h]
theorem Qb {r:Nat}:vj r c p S (r+1)=vj r c p S r:=by
 apply List.ext_getElem?;intro j;rcases xG j S.length with h|h
 ·rw [jN h,jN h];by_cases e:j=r
  ·rw [if_pos (Or.inl e),if_pos (Or.inl e)]
  ·by_cases e2:r<=j
   ·rw [if_pos (Or.inr za),if_pos (Or.inr e2)]
   ·rw [if_neg za,if_neg za]
 ·rw [qN (by rw [jG];exact h),qN (by rw [jG];exact h)]
theorem Qc {r:Nat}(hi:i<S.length)(hne:i≠r):(vj r c p S i).set i (sB p (S.getD i []) (S.getD r []) c)=vj r c p S (i+1):=by
 apply List.ext_getElem?;intro j;rcases xG j S.length with h|h
 ·rw [jN h];by_cases e:i=j
  ·subst e;rw [XQ (by rw [jG];exact h),if_neg za]
  ·rw [XY e,jN h];by_cases e1:j=r
   ·rw [if_pos (Or.inl e1),if_pos (Or.inl e1)]
   ·by_cases e2:i<=j
    ·rw [if_pos (Or.inr e2),if_pos (Or.inr za)]
    ·rw [if_neg za,if_neg za]
 ·rw [qN (by rw [QY,jG];exact h),qN (by rw [jG];exact h)]
theorem Pn {r:Nat}(hn:S.length=n):vj r c p S n=sF r c p S:=by
 subst hn;apply List.ext_getElem?;intro j;rcases xG j S.length with h|h
 ·rw [jN h];unfold sF;rw [List.getElem?_mapIdx,qY h];show _=some (if j=r then _ else _);rw [show S.getD j []=S[j] by rw [qQ,qY h];rfl];by_cases e:j=r
  ·rw [if_pos (Or.inl e),if_pos e]
  ·rw [if_neg za,if_neg e]
 ·rw [qN (by rw [jG];exact h),qN (by unfold sF;rw [List.length_mapIdx];exact h)]
theorem V9 {st:wL}:uj c (st.S.drop st.ld.length)=if wG c st<st.S.length - st.ld.length then((wG c st:Nat):Int) else -1:=by
 unfold uj wG;rw [QE]
theorem mO {st:wL}(h:¬wG c st<st.S.length - st.ld.length):oY c st=st:=by unfold oY;rw [if_neg h]
theorem pE {st:wL}(h:wG c st<st.S.length - st.ld.length):oY c st=⟨sF st.ld.length c st.p (oZ c st),st.ld++[c],zl (oZ c st) st.ld.length c⟩:=by unfold oY;rw [if_pos h]
theorem wQ.msz (hd:zM S n m)(hi:∃a,rh n a0 a/\xt n m c a (zl S) ld p)(hn:n<=64)(h0:∀i,i<n->∀j,j<m->LI K (a0 i j)):zW (67+65*K) S:=λL hL x hx=>by
 obtain⟨a,hs,hi⟩:=hi;obtain⟨i,d,rfl⟩:=List.mem_iff_getElem.1 hL;obtain⟨j,g,rfl⟩:=List.mem_iff_getElem.1 hx;have h1:=hd.rows;have h2:=hd.cols _ hL;have:=(hi.sz hn (hs.li h0) (i:=i) (j:=j) za za).szq za;have e:zl S i j=S[i][j]:=by
  unfold zl;rw [qQ (l:=S),qY d];show S[i].getD j 0=_;rw [qQ,qY g];rfl
 rw [e] at this;exact this
theorem wQ.psz (hi:∃a,rh n a0 a/\xt n m c a (zl S) ld p)(hn:n<=64)(h0:∀i,i<n->∀j,j<m->LI K (a0 i j)):zn (67+65*K) p/\p≠0:=by
 obtain⟨a,hs,hi⟩:=hi;exact⟨(hi.lead_sz' hn (hs.li h0)).szq za,hi.ne⟩
section
variable {P:Program}{ops:Array Oper}{Q:Exit->Act->World->Prop}{S:World->Prop}{fuel:Nat}{l:Array Bool}{a:Act}{w:World}
theorem T1 (i j k:Nat){o p q:Oper}(hk:∀K':Act->World->Prop,Shut (∀(a:Act) (w:World),S w->(S w->wpAnyH P .any ops (NoPanic Q) S fuel (l.setIfInBounds i true) a w)->K' a w)->Oper.wp P o a w K' (NoPanic Q))(hj:∀K':Act->World->Prop,Shut (∀(a:Act) (w:World),S w->(S w->wpAnyH P .any ops (NoPanic Q) S fuel (l.setIfInBounds j true) a w)->K' a w)->Oper.wp P p a w K' (NoPanic Q))(hq:∀K':Act->World->Prop,Shut (∀(a:Act) (w:World),S w->(S w->wpAnyH P .any ops (NoPanic Q) S fuel (l.setIfInBounds k true) a w)->K' a w)->Oper.wp P q a w K' (NoPanic Q))(h1:ops[i]?=some o:=by simp only [qT,qG,qR];rfl)(h:ops[j]?=some p:=by simp only [qT,qG,qR];rfl)(d:ops[k]?=some q:=by simp only [qT,qG,qR];rfl)(h2:Region.ready .any ops l=[i,j,k]:=by kernel_rfl)(h3:Region.wanted o (yielded ops a.tmps)=true:=by rfl)(m:Region.wanted p (yielded ops a.tmps)=true:=by rfl)(g:Region.wanted q (yielded ops a.tmps)=true:=by rfl):wpAnyH P .any ops (NoPanic Q) S (fuel+1) l a w:=
 wpAnyH_ready h2 zF (AllReadyH.cons h1 (λK' hK=>by rw [if_pos h3];exact hk K' hK) (AllReadyH.cons h (λK' hK=>by rw [if_pos m];exact hj K' hK) (AllReadyH.cons d (λK' hK=>by rw [if_pos g];exact hq K' hK) AllReadyH.nil)))
end
section
variable {α:Type}{E:El α}
theorem y8.open {xs:List α}(h:y8 E w i t (.slice (some ad) n c) xs vs):
  ∃a:Array Value,ad=⟨ad.block,0,none⟩/\i<=ad.block/\n=xs.length/\zh w ad.block t a/\xs.length<=c/\c<=maxLen/\a.size=c*3/\a.toList.take (xs.length*3)=vs/\y9 a:=by
 rcases h.own.2 with⟨e,h0⟩|⟨g,cap,a,e,hbg,hg,hnc,hcm,hcs,htake⟩
 ·cases e
 ·injection e with e1 e2 e3;injection e1 with e1;subst e1 e2 e3;obtain⟨j,e2,d,o⟩:=h.nou g rfl;have m:j=a:=by
   rw [hg] at d;injection d with d;injection d with d;exact d.symm
  subst m;exact⟨j,rfl,hbg,rfl,hg,hnc,hcm,hcs,htake,λu hu k z=>o u hu k z⟩
theorem y8.ready {xs:List α}(h:y8 E w j t (.slice (some ad) n c) xs vs){i:Nat}(hi:i<n)(x y:Value):∃a b d:Value,w.cell? ⟨ad.block,i*3,none⟩=some a/\w.frozen? ⟨ad.block,i*3,none⟩=false/\(w.setCell ⟨ad.block,i*3,none⟩ x).cell? ⟨ad.block,i*3+1,none⟩=some b/\(w.setCell ⟨ad.block,i*3,none⟩ x).frozen? ⟨ad.block,i*3+1,none⟩=false/\
  ((w.setCell ⟨ad.block,i*3,none⟩ x).setCell ⟨ad.block,i*3+1,none⟩ y).cell? ⟨ad.block,i*3+2,none⟩=some d/\((w.setCell ⟨ad.block,i*3,none⟩ x).setCell ⟨ad.block,i*3+1,none⟩ y).frozen? ⟨ad.block,i*3+2,none⟩=false:=by
 obtain⟨cs,-,-,h0,hk,h1,-,h2,-⟩:=h.open;have g:=hk.set_ (i*3) x;have k:=g.set_ (i*3+1) y;have e0:i*3<cs.size:=za;have e1:i*3+1<(cs.setIfInBounds (i*3) x).size:=by simp;omega
 have e2:i*3+2<((cs.setIfInBounds (i*3) x).setIfInBounds (i*3+1) y).size:=by simp;omega
 exact⟨_,_,_,(hk.cell _).trans (QU e0),hk.frozen _,(g.cell _).trans (QU e1),g.frozen _,(k.cell _).trans (QU e2),k.frozen _⟩
theorem y8.put (hE:tY E){w:World}{A n c:Nat}{t:TypeId}{ad:Addr}{xs:List α}{vs:List Value}(h:y8 E w A t (.slice (some ad) n c) xs vs){i:Nat}(hi:i<n){x:α}{b:Bool}{B:ze}{m d:Nat}{F:ze}{u v:Nat}(hx:E w x b B m d F u v):
  ∃N,y8 E (((w.setCell ⟨ad.block,i*3,none⟩ (.bool b)).setCell ⟨ad.block,i*3+1,none⟩ (.slice B m d)).setCell ⟨ad.block,i*3+2,none⟩ (.slice F u v)) A t (.slice (some ad) n c) (xs.set i x) N:=by
 obtain⟨cs,e9,D,h0,hk,h1,K,h2,h3,C⟩:=h.open;obtain⟨g,o,p⟩:=ad;simp only [Addr.mk.injEq,true_and] at e9;obtain⟨rfl,rfl⟩:=e9;simp only at hk D⊢;have ho:=zZ.of_far (dM g (i*3) (i*3+1) (i*3+2) w (.bool b) (.slice B m d) (.slice F u v));have G:=((hk.set_ (i*3) (.bool b)).set_ (i*3+1) (.slice B m d)).set_ (i*3+2) (.slice F u v);have L:y9 (((cs.setIfInBounds (i*3) (.bool b)).setIfInBounds (i*3+1) (.slice B m d)).setIfInBounds (i*3+2) (.slice F u v)):=gz (gz (gz C _ (λ_ _ e=>by cases e)) _ (λ_ _ e=>by cases e)) _ (λ_ _ e=>by cases e);generalize ((w.setCell ⟨g,i*3,none⟩ (.bool b)).setCell ⟨g,i*3+1,none⟩ (.slice B m d)).setCell ⟨g,i*3+2,none⟩ (.slice F u v)=w3 at*;obtain⟨v7,a⟩:∃q,((cs.setIfInBounds (i*3) (.bool b)).setIfInBounds (i*3+1) (.slice B m d)).setIfInBounds (i*3+2) (.slice F u v)=q:=⟨_,rfl⟩;have H:v7.size=cs.size:=by rw [<-a];simp
 have s:∀k,k<xs.length*3->(v7.toList.take (xs.length*3))[k]?=v7[k]?:=λk J=>by
  rw [List.getElem?_take_of_lt J,QS]
 refine⟨v7.toList.take (xs.length*3),⟨⟨?_,.inr ⟨g,c,v7,by rw [QY,h0],D,by rw [<-a];exact G,by rw [QY];exact h1,K,by rw [H];exact h2,by rw [QY]⟩⟩,?_,?_⟩⟩
 ·have M:v7.toList.length=c*3:=by rw [XO,H,h2]
  rw [qE,M,QY];omega
 ·intro g' e;simp [Value.ownBlock] at e;subst e;exact⟨v7,t,by rw [<-a];exact G,λq hq k z=>by rw [<-a] at hq;exact L q hq k z⟩
 ·intro j y hj;have I:=(List.getElem?_eq_some_iff.1 hj).1;rw [QY] at I;by_cases hij:i=j
  ·subst hij;rw [XQ za] at hj;injection hj with hj;subst hj;refine⟨b,B,m,d,F,u,v,?_,?_,?_,hE.offg hx hk C ho⟩
   ·rw [s _ za,<-a,qK za,qK za,QZ za]
   ·rw [s _ za,<-a,qK za,QZ (by simp;omega)]
   ·rw [s _ za,<-a,QZ (by simp;omega)]
  ·rw [XY hij] at hj;obtain⟨b1,B1,m1,d1,F1,u1,f1,c1,c2,c3,c4⟩:=h.num j y hj;rw [<-h3,List.getElem?_take_of_lt za,QS] at c1 c2 c3;refine⟨b1,B1,m1,d1,F1,u1,f1,?_,?_,?_,hE.offg c4 hk C ho⟩
   ·rw [s _ za,<-a,qK za,qK za,qK za];exact c1
   ·rw [s _ za,<-a,qK za,qK za,qK za];exact c2
   ·rw [s _ za,<-a,qK za,qK za,qK za];exact c3
end
def ZR (E:El Rat)(Z:Nat->Prop):RP Rat:=λw B m d L=>yg E w B m d L/\∀ad,B=some ad->Z ad.block
theorem ZR.grown {E:El Rat}(hE:tY E){Z:Nat->Prop}{w w':World}{u:Value}{B:ze}{m d:Nat}{L:List Rat}(h:ZR E Z w B m d L)(hg:w.grownBy w' u.ownBlock)(hn:wS w u)(hz:∀b,u.ownBlock=some b->¬ Z b):ZR E Z w' B m d L:=by
 refine⟨?_,h.2⟩;cases hv:u.ownBlock with
 |none=>rw [hv] at hg;exact h.1.below hE (uI hg)
 |some g=>
   rw [hv] at hg;obtain⟨t,cs,hk,hc⟩:=hn.blk hv;have ho:zZ g w w':=zZ.of_grown hg;refine⟨h.1.len,h.1.fits,h.1.most,λi x hi=>?_⟩;obtain⟨ad,b,B1,m1,d1,F,u1,v1,e,h1,h2,h3,h4,h5⟩:=h.1.num i x hi;have k:ad.block≠g:=λe9=>hz g hv (e9▸h.2 ad e);have a:∀j,w'.cell? (ad.add j)=w.cell? (ad.add j):=λj=>ho.2 _ (by rw [y4];exact h1) (by rw [y4];exact k);exact⟨ad,b,B1,m1,d1,F,u1,v1,e,qJ h1 ho.1,(a _).trans h2,(a _).trans h3,(a _).trans h4,hE.offg h5 hk hc ho⟩
