/- What this claim leans on. -/
import Derived.Test.YtielpgdebeggbaaGreatDoorMEList
import Derived.ArgAppend
set_option linter.unusedVariables false
set_option linter.unusedSimpArgs false
namespace Go.Proofs.YtielpgdebeggbaaGreatDoor
open Go Go.RowKit Go.Proofs.Tryz
set_option maxHeartbeats 16000000
variable {ad:Addr}{b:Bool}{z:Int}{Ls xs ys:List (List Rat)}{K a c g i k n:Nat}{x y:Rat}{w:World}
structure uE (n:Nat)(F:(Nat->Nat->Rat)->Rat):Prop where
 congr:∀M N:Nat->Nat->Rat,(∀i,i<n->∀j,j<n->M i j=N i j)->F M=F N
 lin:∀(M:Nat->Nat->Rat) (k:Nat),k<n->∀(a b:Rat) (u v:Nat->Rat),F (zP M k λi=>a*u i+b*v i)=a*F (zP M k u)+b*F (zP M k v)
 same:∀(M:Nat->Nat->Rat) (k l:Nat),k<n->l<n->k≠l->(∀i,i<n->M i k=M i l)->F M=0
theorem uE.det_ (n:Nat):uE n (zB n):=⟨λM N h=>vQ h,λM k hk a b u v=>ko M hk a b u v,λM k l hk hl d h=>by
 rw [vQ (N:=zP M k λi=>M i l) λi hi j _=>?_]
 ·exact iF hk hl d
 ·by_cases e:j=k
  ·rw [e,vu];exact h i hi
  ·rw [vz _ e]⟩
theorem ZO {M:Nat->Nat->Rat}{l:Nat}(h:k≠l)(u v:Nat->Rat):zP (zP M k u) l v=zP (zP M l v) k u:=by
 funext i j
 unfold zP;by_cases e:j=l
 ·rw [if_pos e,if_neg za,if_pos e]
 ·rw [if_neg e,if_neg e]
theorem uE.swap {F:(Nat->Nat->Rat)->Rat}(h:uE n F){M:Nat->Nat->Rat}{k l:Nat}(hk:k<n)(hl:l<n)(d:k≠l)(u v:Nat->Rat):F (zP (zP M k u) l v)= -F (zP (zP M k v) l u):=by
 have same:∀w:Nat->Rat,F (zP (zP M k w) l w)=0:=λw=>h.same _ k l hk hl d λi _=>by
  rw [vu,vz _ d,vu]
 have e1:∀a b x y:Nat->Rat,F (zP (zP M k a) l λi=>1*x i+1*y i)=1*F (zP (zP M k a) l x)+1*F (zP (zP M k a) l y):=λa b x y=>h.lin _ l hl 1 1 x y;have e2:∀b x y:Nat->Rat,F (zP (zP M k λi=>1*x i+1*y i) l b)=1*F (zP (zP M k x) l b)+1*F (zP (zP M k y) l b):=λb x y=>by
  rw [ZO d,ZO d,ZO d];exact h.lin _ k hk 1 1 x y
 have h1:=same λi=>1*u i+1*v i;rw [e1 _ u,e2,e2,same u,same v] at h1
 grind
theorem uE.sum {F:(Nat->Nat->Rat)->Rat}(h:uE n F)(M:Nat->Nat->Rat){k:Nat}(hk:k<n)(f:Nat->Rat)(u:Nat->Nat->Rat):∀q,F (zP M k λi=>zt q λl=>f l*u l i)=zt q λl=>f l*F (zP M k (u l))
 |0=>by
   have e:=h.lin M k hk 0 0 (λ_=>0) (λ_=>0);have e2:(zP M k λi=>zt 0 λl=>f l*u l i)=zP M k λi=>0*(λ_:Nat=>(0:Rat)) i+0*(λ_:Nat=>(0:Rat)) i:=by
    congr 1;funext i;show(0:Rat)=0*0+0*0;grind
   rw [e2,e];show _=(0:Rat);grind
 |q+1=>by
   have e2:(zP M k λi=>zt (q+1) λl=>f l*u l i)=zP M k λi=>1*(λi=>zt q λl=>f l*u l i) i+f q*u q i:=by
    congr 1;funext i;rw [x4];grind
   rw [e2,h.lin M k hk,h.sum M hk f u q,x4,XJ]
theorem Vy:∀{m:Nat} {L:List Nat},L.Nodup->(∀x ∈ L,x<m)->L.length<=m
 |0,L,_,h=>by
   cases L with
   |nil=>exact qX _
   |cons x xs=>exact absurd (h x xT) za
 |m+1,L,hn,h=>by
   have h1:=Vy (m:=m) (hn.erase m) λx hx=>by
    have h2:=hn.mem_erase_iff.1 hx;have:=h x h2.2;have:=h2.1;omega
   by_cases hm:m ∈ L
   ·rw [List.length_erase_of_mem hm] at h1;omega
   ·rw [List.erase_of_not_mem hm] at h1;omega
def wP:Nat->Nat->Rat:=λi j=>if i=j then 1 else 0
theorem uE.units {F:(Nat->Nat->Rat)->Rat}(h:uE n F)(h1:F wP=0):∀(d t:Nat),t+d=n->∀(f:Nat->Nat),(∀j,j<n->f j<n)->(∀j,j<t->f j=j)->F (λi j=>if i=f j then 1 else 0)=0
 |0,t,ht,f,hf,hfix=>by
   rw [h.congr _ wP λi _ j hj=>?_]
   ·exact h1
   ·show(if i=f j then(1:Rat) else 0)=if i=j then 1 else 0
    rw [hfix j za]
 |d+1,t,ht,f,hf,hfix=>by
   by_cases hj:∃j,j<n/\f j=t
   ·obtain⟨j,o,g⟩:=hj;by_cases e:j=t
    ·exact h.units h1 d (t+1) za f hf λq hq=>by
      by_cases e2:q=t
      ·rw [e2,<-e,g,e]
      ·exact hfix q za
    ·have hjgt:t<j:=by
      rcases XV j t with a|a|a
      ·have:=hfix j a;omega
      ·exact absurd a e
      ·exact a
     have e3:=h.swap (M:=λi j=>if i=f j then 1 else 0) (by omega:t<n) o za (λi=>if i=f t then 1 else 0) (λi=>if i=f j then 1 else 0);have e4:(λi j=>if i=f j then(1:Rat) else 0)=zP (zP (λi j=>if i=f j then 1 else 0) t λi=>if i=f t then 1 else 0) j λi=>if i=f j then 1 else 0:=by
      funext i q
      unfold zP;by_cases q1:q=j
      ·rw [if_pos q1,q1]
      ·rw [if_neg q1];by_cases q2:q=t
       ·rw [if_pos q2,q2]
       ·rw [if_neg q2]
     rw [e4,e3];have e5:=h.units h1 d (t+1) za (λq=>if q=t then t else if q=j then f t else f q) (λq hq=>by
      show(if q=t then t else if q=j then f t else f q)<n
      split
      ·omega
      ·split
       ·exact hf t za
       ·exact hf q hq) (λq hq=>by
      show(if q=t then t else if q=j then f t else f q)=q;by_cases q1:q=t
      ·rw [if_pos q1,q1]
      ·rw [if_neg q1,if_neg za];exact hfix q za)
     have e6:(λi q=>if i=(if q=t then t else if q=j then f t else f q) then(1:Rat) else 0)=zP (zP (λi j=>if i=f j then 1 else 0) t λi=>if i=f j then 1 else 0) j λi=>if i=f t then 1 else 0:=by
      funext i q
      unfold zP;by_cases q1:q=j
      ·have hv:(if q=t then t else if q=j then f t else f q)=f t:=by rw [if_neg za,if_pos q1]
       rw [hv,if_pos q1]
      ·by_cases q2:q=t
       ·have hv:(if q=t then t else if q=j then f t else f q)=t:=if_pos q2;rw [hv,if_neg q1,if_pos q2,g]
       ·have hv:(if q=t then t else if q=j then f t else f q)=f q:=by rw [if_neg q2,if_neg q1]
        rw [hv,if_neg q1,if_neg q2]
     rw [<-e6,e5,Rat.neg_zero]
   ·-- t is missing:two are equal
    have hd:∃k l,k<n/\l<n/\k≠l/\f k=f l:=by
     refine Classical.byContradiction λv=>?_;have s:((List.range n).map f++[t]).Nodup:=by
      rw [List.nodup_append];refine⟨?_,zF,λa ha b hb=>?_⟩
      ·rw [List.nodup_iff_pairwise_ne,List.pairwise_map];refine List.Pairwise.imp_of_mem (fun{a b} ha hb hab=>?_) (List.pairwise_lt_range (n:=n));exact λe=>v ⟨a,b,List.mem_range.1 ha,List.mem_range.1 hb,za,e⟩
      ·obtain⟨q,hq,rfl⟩:=List.mem_map.1 ha;rw [List.mem_singleton.1 hb];exact λe=>hj ⟨q,List.mem_range.1 hq,e⟩
     have:=Vy (m:=n) s λx hx=>by
      rcases List.mem_append.1 hx with hx|hx
      ·obtain⟨q,hq,rfl⟩:=List.mem_map.1 hx;exact hf q (List.mem_range.1 hq)
      ·rw [List.mem_singleton.1 hx];omega
     rw [qB,QH,XD] at this;simp at this;omega
    obtain⟨k,l,hk,hl,u,e⟩:=hd;exact h.same _ k l hk hl u λi _=>by
     show(if i=f k then(1:Rat) else 0)=if i=f l then 1 else 0
     rw [e]
theorem uE.all0 {F:(Nat->Nat->Rat)->Rat}(h:uE n F)(h1:F wP=0):∀(t:Nat),t<=n->∀(M:Nat->Nat->Rat) (f:Nat->Nat),(∀j,j<n->f j<n)->(∀j,t<=j->j<n->∀i,i<n->M i j=if i=f j then 1 else 0)->F M=0
 |0,_,M,f,hf,hM=>by
   rw [h.congr M (λi j=>if i=f j then 1 else 0) λi hi j hj=>hM j za hj i hi];exact h.units h1 n 0 za f hf λj hj=>absurd hj za
 |t+1,ht,M,f,hf,hM=>by
   have e1:F M=F (zP M t λi=>zt n λl=>M l t*(λl i=>if i=l then(1:Rat) else 0) l i):=h.congr _ _ λi hi j hj=>by
    by_cases e:j=t
    ·rw [e,vu];exact(zU (f:=λl=>M l t*if i=l then(1:Rat) else 0) (g:=λl=>M l t*if l=i then 1 else 0) λl _=>by
      by_cases q:i=l
      ·rw [if_pos q,if_pos q.symm]
      ·rw [if_neg q,if_neg (Ne.symm q)]).trans (P4 hi λl=>M l t)|>.symm
    ·rw [vz _ e]
   rw [e1,h.sum M za (λl=>M l t) (λl i=>if i=l then(1:Rat) else 0) n];refine vS λl hl=>?_;rw [h.all0 h1 t za (zP M t λi=>if i=l then 1 else 0) (λj=>if j=t then l else f j) (λj hj=>by
    show(if j=t then l else f j)<n
    split
    ·exact hl
    ·exact hf j hj) λj h2 h3 i hi=>?_,xL]
   by_cases e:j=t
   ·rw [e,vu];show _=if i=(if t=t then l else f t) then(1:Rat) else 0
    rw [if_pos rfl]
   ·rw [vz _ e];show _=if i=(if j=t then l else f j) then(1:Rat) else 0
    rw [if_neg e];exact hM j za h3 i hi
theorem uE.one_ {F G:(Nat->Nat->Rat)->Rat}(h:uE n F)(k:uE n G)(M:Nat->Nat->Rat):F M*G wP=G M*F wP:=by
 have hs:uE n λM=>F M*G wP - G M*F wP:=⟨λM N e=>by
   show F M*G wP - G M*F wP=F N*G wP - G N*F wP;rw [h.congr M N e,k.congr M N e],λM q hq a b u v=>by
   show F _*G wP - G _*F wP=_;rw [h.lin M q hq,k.lin M q hq];grind,λM q l hq hl d e=>by
   show F M*G wP - G M*F wP=0;rw [h.same M q l hq hl d e,k.same M q l hq hl d e];grind⟩
 have:=hs.all0 (by show F wP*G wP - G wP*F wP=0;grind) n (qX _) M (λj=>j) (λj hj=>hj) λj h1 h2=>absurd h2 za;have h2:F M*G wP - G M*F wP=0:=this
 grind
theorem Z3:∀n,zB n wP=1
 |0=>rfl
 |n+1=>by
   rw [Zs n λi hi=>by show(if i=n then(1:Rat) else 0)=0;rw [if_neg za],Z3 n];show(if n=n then(1:Rat) else 0)*1=1;rw [if_pos rfl];decide+kernel
def oQ (l:Rat)(row:List Rat):Rat:=row.foldl (λl x=>l*(((l*x).den:Nat):Rat)) l
def zG (row:List Rat):Rat:=oQ 1 row
def uB (x:Rat):Prop:=∃z:Int,x=(z:Rat)
theorem uB.mul (h:uB x)(k:uB y):uB (x*y):=by
 obtain⟨z,rfl⟩:=h;obtain⟨t,rfl⟩:=k;exact⟨z*t,(yP z t).symm⟩
theorem uB.nat (n:Nat):uB (n:Rat):=⟨n,(YD n).symm⟩
theorem kW (x:Rat):((x.den:Nat):Rat)≠0:=λh=>x.den_nz (by
 have:((x.den:Nat):Rat)=((0:Nat):Rat):=h;exact Rat.natCast_inj.1 this)
theorem ma (x:Rat):uB (((x.den:Nat):Rat)*x):=⟨x.num,by rw [YH];exact fR x⟩
theorem fT (l x:Rat)(row:List Rat):oQ l (x::row)=oQ (l*(((l*x).den:Nat):Rat)) row:=rfl
theorem eI:∀{row:List Rat} {l:Rat},l≠0->oQ l row≠0
 |[],_,h=>h
 |x::row,l,h=>by
   rw [fT];refine eI λe=>?_;rcases Rat.mul_eq_zero.1 e with e|e
   ·exact h e
   ·exact kW _ e
theorem bU:∀{row:List Rat} {l:Rat},∃q:Rat,uB q/\oQ l row=q*l
 |[],l=>⟨1,⟨1,by decide+kernel⟩,(XJ l).symm⟩
 |x::row,l=>by
   obtain⟨q,hq,e⟩:=bU (row:=row) (l:=l*(((l*x).den:Nat):Rat));exact⟨q*(((l*x).den:Nat):Rat),hq.mul (uB.nat _),by rw [fT,e];grind⟩
theorem VQ:∀{row:List Rat} {l:Rat},∀x ∈ row,uB (oQ l row*x)
 |x::row,l,y,h=>by
   rcases List.mem_cons.1 h with rfl|h
   ·obtain⟨q,hq,e⟩:=bU (row:=row) (l:=l*(((l*y).den:Nat):Rat));rw [fT,e];have:=hq.mul (ma (l*y));rw [show q*(l*(((l*y).den:Nat):Rat))*y=q*((((l*y).den:Nat):Rat)*(l*y)) by grind];exact this
   ·rw [fT];exact VQ y h
theorem nY {q:Int}{r:Rat}(h:(q:Rat)*r=(z:Rat)):(r.den:Int)∣ q:=by
 have h1:(q:Rat)*(r*((r.den:Nat):Rat))=(z:Rat)*((r.den:Nat):Rat):=by rw [<-h];grind
 rw [fR,<-yP,<-YD,<-yP] at h1;have h2:q*r.num=z*(r.den:Int):=Rat.intCast_inj.1 h1;have h3:r.den ∣ q.natAbs*r.num.natAbs:=by
  rw [<-xS,h2,xS];exact⟨z.natAbs,by rw [QK];rfl⟩
 have h4:r.den ∣ q.natAbs:=Nat.Coprime.dvd_of_dvd_mul_right r.reduced.symm h3;exact Int.ofNat_dvd_left.2 h4
theorem LI.int (h:LI K x):uB x:=by obtain⟨z,e,_⟩:=h;exact⟨z,e⟩
theorem LI.of_mul {q:Rat}(h:LI K y)(hq:uB q)(hx:uB x)(e:y=q*x)(h0:q≠0):LI K x:=by
 obtain⟨z,rfl⟩:=hq;obtain⟨t,rfl⟩:=hx;obtain⟨v,rfl,hv⟩:=h;refine⟨t,rfl,hv.of_le ?_⟩;rw [<-yP] at e;rw [Rat.intCast_inj.1 e,xS];have:z≠0:=λhz=>h0 (by rw [hz];rfl);exact Nat.le_mul_of_pos_left _ (Int.natAbs_pos.2 this)
theorem OG {row:List Rat}{l:Rat}(h:uB l):uB (oQ l row):=by
 obtain⟨q,hq,e⟩:=bU (row:=row) (l:=l);rw [e];exact hq.mul h
theorem mU:uB 1:=⟨1,by decide+kernel⟩
theorem Ud (row:List Rat):zG row≠0:=eI (by decide+kernel)
theorem UT:∀{row:List Rat} {l:Rat} {K L:Nat},LI L l->(∀x ∈ row,zn K x)->LI (L+row.length*K) (oQ l row)
 |[],l,K,L,hl,_=>by rw [YM,Nat.zero_mul];exact hl
 |x::row,l,K,L,hl,h=>by
   rw [fT];have h1:LI K (((l*x).den:Nat):Rat):=by
    obtain⟨z,hz,_⟩:=hl;have hd:(l*x).den ∣ x.den:=by
     have:((x.den:Int):Rat)*(l*x)=((z*x.num:Int):Rat):=by
      rw [yP,<-hz,<-fR x,YD];grind
     exact Int.natCast_dvd_natCast.1 (nY this)
    exact⟨((l*x).den:Int),(YD _).symm,((h x xT).den).of_le (Nat.le_of_dvd (xI x.den_nz) hd)⟩
   refine(UT (K:=K) (hl.mul h1) λy hy=>h y (XC _ hy)).up ?_;rw [xK,Nat.succ_mul];omega
theorem jl {l:Rat}{L:Nat}(hl:LI L l)(hx:zn K x)(hi:uB (l*x)):LI (L+K) (l*x):=by
 obtain⟨z,hz,a⟩:=hl;obtain⟨t,ht⟩:=hi;refine⟨t,ht,?_⟩
 -- t*den=z*num
 have h1:t*(x.den:Int)=z*x.num:=by
  have:(t:Rat)*((x.den:Nat):Rat)=(z:Rat)*(x.num:Rat):=by
   rw [<-ht,hz,<-fR x];grind
  rw [<-YD,<-yP,<-yP] at this;exact Rat.intCast_inj.1 this
 have h2:t.natAbs*x.den=z.natAbs*x.num.natAbs:=by
  rw [<-xS,<-h1,xS];rfl
 refine(a.mul hx.num).of_le ?_;rw [<-h2];exact Nat.le_mul_of_pos_right _ (xI x.den_nz)
theorem iR {row:List Rat}(hn:row.length<=n)(h:∀x ∈ row,zn K x):LI (1+(n+1)*K) (zG row)/\∀x ∈ row,LI (1+(n+1)*K) (zG row*x):=by
 have h1:=UT (K:=K) LI.one h;have hm:row.length*K<=n*K:=qS _ hn;have hs:(n+1)*K=n*K+K:=Nat.succ_mul n K;exact⟨h1.up za,λx hx=>(jl h1 (h x hx) (VQ x hx)).up za⟩
theorem Qp {row:List Rat}(h:LI K (zG row)):LI K (zG (row.take k)):=by
 obtain⟨q,hq,e⟩:=bU (row:=row.drop k) (l:=zG (row.take k));have e2:oQ (zG (row.take k)) (row.drop k)=zG row:=by
  unfold zG oQ;rw [<-yH,YA]
 rw [e2] at e;exact h.of_mul hq (OG mU) e λhz=>Ud row (by rw [e,hz,XL])
theorem Qo {row:List Rat}(h:k<row.length):zG (row.take (k+1))=zG (row.take k)*(((zG (row.take k)*row.getD k 0).den:Nat):Rat):=by
 unfold zG oQ;rw [QG h,yH,qQ,qY h];rfl
theorem mQ (h:x.den≠1):(x.num:Rat) / x=((x.den:Nat):Rat):=by
 have hx:x≠0:=λe=>h (by rw [e];rfl);have:=fR x;rw [<-this]
 grind
set_option maxRecDepth 100000
theorem Y5 {r c:Int}(h:rm r c=b)(w:World):Calls prog 80 #[.int .i64 r,.int .i64 c] w (λe w'=>e=.returned (.bool b)/\w=w'):=h▸mJ r c w
theorem Y4 (fn:Fn)(first cap:Array Value)(w:World):(Instr.makeFunc fn first cap).run prog w=.ok (.func fn first cap) w:=rfl
theorem jz:zn 1 (1:Rat):=⟨zf,zf⟩
theorem pJ (r c:Nat):zn 1 (if r=c then(1:Rat) else 0):=by split<;>first|exact jz|exact zn.zero
theorem mK {n:Nat}(hT:zu w)(hn:n<=64):Calls prog 37 #[.int .i64 (n:Int)] w (fU w n n (te n)):=by
 have H:=λW=>zb (Y5 (Yf hn hn) W);obtain⟨a,g,bz⟩:=zA w 28 #[.slice none 0 0,.int .i64 0];have HM:zd (Calls _ _ _ _ (sv _ n n (te n))):=Ye (K:=1) (λr c=>if r=c then 1 else 0) 84 #[] n n _ (hT.on a) ⟨mi,λr c _ _ w' hb=>kT ((hT.on a).on hb) r c⟩ (λr c _ _=>pJ r c) hn hn;have HK:=zb g;have HB:=zb a;clear a g bz hT;go_enter func37,ntmps37;go_wp2_with fail;refine(H _).o.mono ?_;rintro e w1 ⟨rfl,rfl⟩;go_wp2_with fail;refine HM.o.mono ?_;rintro e w3 ⟨A3,c3,rfl,i,h,hb⟩;have d:=zg hb HK.o;obtain⟨sc0,sf0,sc1,sf1⟩:=uH d (.slice A3 n c3);obtain⟨r0,r1⟩:=(uG d (.slice A3 n c3) (.int .i64 (n:Int))).c2;have HG:=zb (je i (λad e=>qJ HK.o.lt (h ad e)) d (zc HB.o hb) za);clear hb d i h HK HB;go_wp2;refine bodyPost_ret (v:=.tuple #[.agg #[.slice A3 n c3,.int .i64 (n:Int)],.bool true]) (by simp [results,results37,go_sem,r0,r1]) rfl ?_;exact HG.o
section
variable {A:ze}{n c m K:Nat}{MM:List (List Rat)}{w:World}
end
theorem Vw (z:Int)(w:World):Calls prog 129 #[.int .i64 z] w (λe w'=>e=.returned (.bool false)/\w=w'):=by
 have h1:(z !=z)=false:=zF;go_enter func129,ntmps129;go_wp2;go_ret;exact⟨rfl,rfl⟩
theorem Re (n m:Nat)(w:World):Calls prog 101 #[.int .i64 (n:Int),.int .i64 (m:Int)] w (λe w'=>e=.returned (.int .i64 (r9 n m))/\w=w'):=by
 have H1:=zb (Vw (n:Int) w);have H2:=zb (Vw (m:Int) w);unfold r9;by_cases h1:n<m
 ·have hd:decide ((n:Int)<(m:Int))=true:=decide_eq_true za;have a:decide (n<m)=true:=decide_eq_true za;rw [if_pos h1];go_enter func101,ntmps101;go_wp2_with fail;refine H1.o.mono ?_;rintro e w1 ⟨rfl,rfl⟩;go_wp2_with fail;refine H2.o.mono ?_;rintro e w1 ⟨rfl,rfl⟩;go_wp2;go_ret;exact⟨rfl,rfl⟩
 ·have hd:decide ((n:Int)<(m:Int))=false:=decide_eq_false za;have a:decide (n<m)=false:=decide_eq_false za;rw [if_neg h1];by_cases h2:n=m
  ·rw [if_pos h2];have d:decide ((m:Int)<(n:Int))=false:=decide_eq_false za;have g:decide ((n:Int)>(m:Int))=false:=decide_eq_false za;have h:decide (m<n)=false:=decide_eq_false za;clear h1 h2;go_enter func101,ntmps101;go_wp2_with fail;refine H1.o.mono ?_;rintro e w1 ⟨rfl,rfl⟩;go_wp2_with fail;refine H2.o.mono ?_;rintro e w1 ⟨rfl,rfl⟩;go_wp2;go_ret;exact⟨rfl,rfl⟩
  ·rw [if_neg h2];have d:decide ((m:Int)<(n:Int))=true:=decide_eq_true za;have g:decide ((n:Int)>(m:Int))=true:=decide_eq_true za;have h:decide (m<n)=true:=decide_eq_true za;clear h1 h2;go_enter func101,ntmps101;go_wp2_with fail;refine H1.o.mono ?_;rintro e w1 ⟨rfl,rfl⟩;go_wp2_with fail;refine H2.o.mono ?_;rintro e w1 ⟨rfl,rfl⟩;go_wp2;go_ret;exact⟨rfl,rfl⟩
section
variable {K K':Nat}{xs ys:List Rat}{A B:ze}{n n' c d:Nat}{w:World}
theorem Oe (hz:vX xs ys=z)(hT:zu w)(ha:zR w A n c xs)(hb:zR w B n' d ys)(hx:zD K xs)(hy:zD K' ys)(hn:n<=1073741824:=by omega)(hn':n'<=1073741824:=by omega)(hK:K<=67108864:=by omega)(I:K'<=67108864:=by omega):
  Calls prog 52 #[.slice A n c,.slice B n' d] w (vU w z):=by
 have O:=ha.len;have P:=hb.len;have L:=zb O;have M:=zb P;have HZ:=zb hz;have G:zd (∀i,i<n->zn K (xs.getD i 0)):=λi hi=>hx.at_ za;have H:zd (∀i,i<n'->zn K' (ys.getD i 0)):=λi hi=>hy.at_ za;unfold vU;have HA:=zb ha;have U:=zb hb;have HT:=zk w (λw' hb=>hT.on hb);clear hT ha hb hx hy O P hz;have hB:=qZ w.heap.size w;have i0:(0:Int)<=(n:Int):=za;obtain⟨N,hN⟩:∃N,min n n'=N:=⟨_,rfl⟩;have hNn:N<=n:=za;have hNm:N<=n':=za;have HN:=zb hN;have Q:min (n:Int) (n':Int)=(N:Int):=za;have R:(if (n':Int)<(n:Int) then(n':Int) else(n:Int))=(N:Int):=by split<;>omega
 have S:(if n'<n then(n':Int) else(n:Int))=(N:Int):=by split<;>omega
 clear hN;go_enter func52,ntmps52;go_wp2_with fail;clear Q R S
 go_loopg [11] (N+1) (λg ix wr=>∃(k:Nat),k<=N/\N<g+k/\ix=.int .i64 k/\zd (vX (xs.drop k) (ys.drop k)=z)/\Below w.heap.size w wr)
 case atStart=>exact⟨0,qM _,za,rfl,HZ,hB⟩
 case round=>
  clear hB;obtain⟨k,hkn,hg,rfl,J,hB⟩:=hrel;by_cases hlt:k<N
  ·have m:k<n:=za;have j:k<n':=za;obtain⟨ad,b1,B1,m1,d1,E1,u1,v1,rfl,-,t,u,v,hx⟩:=HA.o.get hB m;obtain⟨ae,b2,B2,m2,d2,E2,u2,v2,rfl,-,y,C,D,hy⟩:=U.o.get hB j;have Z:decide ((k:Int)<(N:Int))=true:=decide_eq_true za;have i1:(0:Int)<=(k:Int):=za;have i2:(k:Int)<(n:Int):=za;have i3:(k:Int)<(n':Int):=za;have HX:=zb hx;have HY:=zb hy;have o:=zb hB;have E:k<xs.length:=by have:=L.o;omega
   have F:k<ys.length:=by have:=M.o;omega
   clear hx hy hB;by_cases h0:xs.getD k 0=ys.getD k 0
   ·have HQ:=zb (decide_eq_true h0);have Y:zd (vX (xs.drop (k+1)) (ys.drop (k+1))=z):=by
     show _=_;rw [<-T9 E F h0];exact J.o
    clear h0 E F;go_wp2_with fail;have a:=(qZ wr.heap.size wr).drew;refine rg (zj t (zj u (zj v (zj y (zj C (zj D zO)))))) (λhHeld=>?_);refine tk 0 ?_;refine tk 1 ?_;refine tk 2 ?_;refine tk 3 ?_;refine tk 4 ?_;refine tk 5 ?_;refine tk 6 ?_;refine tk 7 ?_;refine rc 8 (λKK h=>?_);go_simp;(with_reducible refine(Xe HQ.o (HT.o _ (zc o.o a)) (HX.o.below a) (HY.o.below a) (G.o k m) (H.o k j) hK I).mono ?_);rintro e wa ⟨rfl,hb⟩;have a:=zc a hb;refine h.out _ _ (Cs.below hHeld hb) (λhHeld=>?_);clear h KK hb;refine tk 9 ?_;refine zV ?_;have s:=zb (zc o.o a);clear hHeld a t u v y C D HX HY o;go_wp2;go_roundg (N - k)
    case measure=>omega
    case rel=>exact⟨k+1,za,za,by go_num,Y,s.o⟩
   ·have HQ:=zb (decide_eq_false h0);have HF:zd (uW (xs.getD k 0) (ys.getD k 0)=z):=by
     show _=_;rw [<-Sa E F h0];exact J.o
    clear h0 E F;go_wp2_with fail;have a:=(qZ wr.heap.size wr).drew;refine rg (zj t (zj u (zj v (zj y (zj C (zj D zO)))))) (λhHeld=>?_);refine tk 0 ?_;refine tk 1 ?_;refine tk 2 ?_;refine tk 3 ?_;refine tk 4 ?_;refine tk 5 ?_;refine tk 6 ?_;refine tk 7 ?_;refine rc 8 (λKK h=>?_);go_simp;(with_reducible refine(Xe HQ.o (HT.o _ (zc o.o a)) (HX.o.below a) (HY.o.below a) (G.o k m) (H.o k j) hK I).mono ?_);rintro e wa ⟨rfl,hb⟩;have a:=zc a hb;refine h.out _ _ (Cs.below hHeld hb) (λhHeld=>?_);clear h KK hb;refine tk 9 ?_;refine zV ?_;have s:=zb (zc o.o a);have V:=zb (HX.o.below a);have X:=zb (HY.o.below a);obtain⟨c0,c1,c2,e0,e1,e2,-⟩:=hHeld;clear a t u v y C D HX HY o;go_wp2_with fail;have a:=(qZ wa.heap.size wa).drew;refine rg (zj c0 (zj c1 (zj c2 (zj e0 (zj e1 (zj e2 zO)))))) (λhHeld=>?_);refine tk 0 ?_;refine tk 1 ?_;refine tk 2 ?_;refine tk 3 ?_;refine tk 4 ?_;refine tk 5 ?_;refine tk 6 ?_;refine tk 7 ?_;refine rc 8 (λKK h=>?_);go_simp;(with_reducible refine(sZ HF.o (fC (HT.o _ (zc s.o a)) (V.o.below a) (X.o.below a) (G.o k m) (H.o k j) hK I)).mono ?_);rintro e wb ⟨rfl,hb⟩;have a:=zc a hb;refine h.out _ _ (Cs.below hHeld hb) (λhHeld=>?_);clear h KK hb;refine tk 9 ?_;refine zV ?_;have T:=zb (zc s.o a);clear hHeld a c0 c1 c2 e0 e1 e2;go_wp2;go_ret;exact⟨rfl,T.o⟩
  ·have hk:k=N:=za;subst hk;have Z:decide ((k:Int)<(k:Int))=false:=zF;have HF:zd (r9 n n'=z):=by
    have h1:=L.o;have h2:=M.o;have h3:=HN.o;have h4:=J.o;rw [qa (by rw [h1,h2];exact h3.symm),h1,h2] at h4;exact h4
   have s:=zb hB;have H1:=zb (Re n n' wr);rw [HF.o] at H1;clear hB;go_wp2_with fail;refine H1.o.mono ?_;rintro e w1 ⟨rfl,rfl⟩;go_wp2;go_ret;exact⟨rfl,s.o⟩
theorem iK {t:Bool}(e:decide (xs=ys)=t)(hT:zu w)(ha:zR w A n c xs)(hb:zR w B n' d ys)(hx:zD K xs)(hy:zD K' ys)(hn:n<=1073741824:=by omega)(g:n'<=1073741824:=by omega)(hK:K<=67108864:=by omega)(a:K'<=67108864:=by omega):
  Calls prog 17 #[.slice A n c,.slice B n' d] w (λe w'=>e=.returned (.bool t)/\Below w.heap.size w w'):=by
 obtain⟨z,hz⟩:∃z,vX xs ys=z:=⟨_,rfl⟩;have H:=zb (Oe hz hT ha hb hx hy hn g hK a);have ht:(z==0)=t:=by
  rw [<-e,<-hz];by_cases h:xs=ys
  ·rw [decide_eq_true h,(Yv xs ys).2 h];rfl
  ·rw [decide_eq_false h,beq_eq_false_iff_ne];exact λh9=>h ((Yv xs ys).1 h9)
 clear hz hT ha hb hx hy e;have HE:=zb ht;clear ht;go_enter func17,ntmps17;go_wp2_with fail;refine H.o.mono ?_;rintro e w1 ⟨rfl,hb⟩;go_wp2;go_ret;exact⟨by rw [<-HE.o];rfl,hb⟩
end
theorem V7 {r:Int}(e:tO r n=b)(A:ze)(c:Nat)(z:Int)(w:World):Calls prog 50 #[.agg #[.slice A n c,.int .i64 z],.int .i64 r] w (λe w'=>e=.returned (.bool b)/\Below w.heap.size w w'):=e▸RZ A n c z r w
theorem PI {r:Int}{m:Nat}(e:tO r m=b)(A:ze)(n c:Nat)(w:World):Calls prog 58 #[.agg #[.slice A n c,.int .i64 (m:Int)],.int .i64 r] w (λe w'=>e=.returned (.bool b)/\Below w.heap.size w w'):=e▸RY A n c m r w
section
variable {A:ze}{n c m K:Nat}{MM:List (List Rat)}{w:World}
theorem jj {j:Nat}(hT:zu w)(h:xm w A n c m MM)(z:zW K MM)(hi:i<n)(hj:j<m)(hK:K+2<=67108864:=by omega):
  Calls prog 19 #[.agg #[.slice A n c,.int .i64 (m:Int)],.int .i64 (i:Int),.int .i64 (j:Int)] w (yj w (zl MM i j)):=by
 have HR:=λW=>zb (V7 (Yy hi) A c (m:Int) W);have HC:=λW=>zb (PI (Yy hj) A n c W);obtain⟨I,t,J,bz⟩:=yv w 28 52 #[.slice A n c,.int .i64 (m:Int)] #[.bool false,.slice none 0 0,.slice none 0 0];obtain⟨g0,g1⟩:=t.c2;have HM:=zb h;have HS:=zb (z.at_ h.dims hi hj);have HT:=zk w (λw' hb=>hT.on hb);have HB:=zb I;have C:=zb t;have D:=zb J;clear hT h z I t J bz;go_enter func19,ntmps19;go_wp2_with fail;refine(HR _).o.mono ?_;rintro e w1 ⟨rfl,hb⟩;have u:=zb (zc HB.o hb);have s:=zb (zg hb C.o);have E:=zb (zg hb D.o);obtain⟨g0,g1⟩:=s.o.c2;clear hb HB C D;go_wp2_with fail;refine(HC _).o.mono ?_;rintro e w2 ⟨rfl,hb⟩;have k:=zb (zc u.o hb);have F:=zb (zg hb s.o);have G:=zb (zg hb E.o);obtain⟨g0,g1⟩:=F.o.c2;clear hb u s E;obtain⟨ad,B,d,rfl,-,hc,ae,b3,A3,n3,c3,E3,k3,f3,rfl,-,h0,h1,h2,L⟩:=HM.o.place k.o hi hj;have i1:(0:Int)<=(i:Int):=za;have i2:(i:Int)<(n:Int):=za;have i3:(0:Int)<=(j:Int):=za;have i4:(j:Int)<(m:Int):=za;obtain⟨t1,t2,-⟩:=zA w2 52 #[.bool b3,.slice A3 n3 c3,.slice E3 k3 f3];have HL:=zb (US t2 (L.below t1));have o:=zb (zc k.o t1);have H:=zb (zg t1 G.o);have M:zd (zD K [zl MM i j]):=λy hy=>by rw [List.mem_singleton.1 hy];exact HS.o
 clear L t1 t2 F G k;go_wp2_with fail;(with_reducible refine(pT (HT.o _ o.o) HL.o M.o zf za).mono ?_);rintro e w5 ⟨b5,A5,n5,c5,E5,k5,f5,rfl,a,hb⟩;have a:zo w5 (zl MM i j) b5 A5 n5 c5 E5 k5 f5:=by
  have e:uU [zl MM i j]=zl MM i j:=by rw [ZC,VJ,xY]
  rw [e] at a;exact a
 have g:=zg hb H.o;obtain⟨sc0,sf0,sc1,sf1,sc2,sf2⟩:=y6 g (.bool b5) (.slice A5 n5 c5);obtain⟨r0,r1,r2⟩:=(xf g (.bool b5) (.slice A5 n5 c5) (.slice E5 k5 f5)).c3;have HG:=zb (va a g (zc o.o hb) za);clear hb g a H o HL g0 g1 hc h0 h1 h2;go_wp2;refine bodyPost_ret (v:=.agg #[.bool b5,.slice A5 n5 c5,.slice E5 k5 f5]) (by simp [results,results19,go_sem,r0,r1,r2]) rfl ?_;exact HG.o
theorem Tq (hT:zu w)(h:xm w A n c m MM)(z:zW K MM)(hi:i<n)(hK:K+2<=67108864:=by omega):
  Calls prog 16 #[.agg #[.slice A n c,.int .i64 (m:Int)],.int .i64 (i:Int)] w (tj w m (MM.getD i [])):=by
 have hm:=h.hm;obtain⟨j,g,bz⟩:=zA w 28 #[.slice A n c,.int .i64 (m:Int)];obtain⟨g0,g1⟩:=g.c2;have HR:=λW=>zb (V7 (Yy hi) A c (m:Int) W);have HM:=zb h;have HT:=zk w (λw' hb=>hT.on hb);have HS:=zb (z.row (i:=i) (by rw [h.dims.rows];exact hi));have HB:=zb j;have HK:=zb g;clear hT h z j g bz;unfold tj;go_enter func16,ntmps16;go_wp2_with fail;refine(HR _).o.mono ?_;rintro e w1 ⟨rfl,hb⟩;have a:=zb (zc HB.o hb);obtain⟨g0,g1⟩:=(zg hb HK.o).c2;obtain⟨ad,B,d,rfl,-,hc,hv⟩:=HM.o.row a.o hi;have i1:(0:Int)<=(i:Int):=za;have i2:(i:Int)<(n:Int):=za;have HV:=zb hv;clear hb HB HK hv;go_wp2_with fail;(with_reducible refine(UR (HT.o _ a.o) HV.o HS.o).mono ?_);rintro e w5 ⟨g5,rfl,k,o,hb⟩;have HG:=zb (And.intro (qH a.o.size k) (And.intro o (zc a.o hb)));clear g0 g1 k o hb hc;go_wp2
 go_ret2
 exact⟨g5,rfl,HG.o⟩
end
section
variable {A A':ze}{n n' c c' m m' K K' q q':Nat}{MM NN:List (List Rat)}{w:World}
theorem qm:∀(args:Array Value) (w':World),Sem.run prog (callFunc 17 args) w'=.ok (.enter 17 args) w':=Go.Proofs.enters_of func17 yd rfl
theorem oc {α:Type}{xs ys:List α}{n':Nat}(hx:xs.length=n)(hy:ys.length=n')(h:n≠n'):xs≠ys:=λe=>h (by rw [<-hx,<-hy,e])
theorem lk (hx:xs.length=n)(hy:ys.length=n)(hk:k<n)(h:xs.getD k []≠ys.getD k []):xs≠ys:=λe=>h (by rw [e])
theorem p9 (hx:xs.length=n)(hy:ys.length=n)(h:∀k,k<n->xs.getD k []=ys.getD k []):xs=ys:=by
 apply yI
 ·omega
 ·intro i h1 h2;have:=h i za;rw [qQ,qQ,qY h1,qY h2] at this;exact this
theorem Qk {t:Bool}(e:decide (MM=NN)=t)(hT:zu w)(h:yx (yg zo) w A n MM)(h':yx (yg zo) w A' n' NN)(z:zW K MM)(z':zW K' NN)(hr:∀L ∈ MM,L.length<=64)(E:∀L ∈ NN,L.length<=64)(hn:n<=64)(hK:K<=67108864)(F:K'<=67108864):
  Calls prog 85 #[.slice A n q,.slice A' n' q',.func (.func 17) #[] #[]] w (λe w'=>e=.returned (.bool t)/\Below w.heap.size w w'):=by
 have hl:=h.len;have o:=h'.len;have hEn:=qm;by_cases hq:n=n'
 ·subst hq;have HA:=zb h;have J:=zb h';have HT:=zk w (λw' hb=>hT.on hb);have HS:zd (∀i,i<n->zD K (MM.getD i [])):=λi hi=>z.row za;have P:zd (∀i,i<n->zD K' (NN.getD i [])):=λi hi=>z'.row za;have HR:zd (∀i,i<n->(MM.getD i []).length<=64):=λi hi=>hr _ (QX (ws za));have O:zd (∀i,i<n->(NN.getD i []).length<=64):=λi hi=>E _ (QX (ws za));have N:zd (∀k,k<n->MM.getD k []≠NN.getD k []->false=t):=λk hk S=>by
   rw [<-e];exact(decide_eq_false (lk hl o hk S)).symm
  have M:zd ((∀k,k<n->MM.getD k []=NN.getD k [])->true=t):=λha=>by
   rw [<-e];exact(decide_eq_true (p9 hl o ha)).symm
  have hB:=qZ w.heap.size w;have e0:((n:Int) !=(n:Int))=false:=zF;have i0:(0:Int)<=(n:Int):=za;clear h h' hT z z' hr E e hl o;go_enter func85,ntmps85;go_wp2_with fail
  go_loopg [17] (n+1) (λg ix wr=>∃(k:Nat),k<=n/\n<g+k/\ix=.int .i64 k/\zd (∀i,i<k->MM.getD i []=NN.getD i [])/\Below w.heap.size w wr)
  case atStart=>exact⟨0,qM _,za,rfl,λi hi=>by omega,hB⟩
  case round=>
   clear hB;obtain⟨k,hkn,hg,rfl,I,hB⟩:=hrel;by_cases hlt:k<n
   ·obtain⟨ad,B,d,rfl,-,hc,hv⟩:=HA.o.get (xe z6) hB hlt rfl;obtain⟨ad',B',d',rfl,-,u,v⟩:=J.o.get (xe z6) hB hlt rfl;have R:decide ((k:Int)<(n:Int))=true:=decide_eq_true za;have i1:(0:Int)<=(k:Int):=za;have i2:(k:Int)<(n:Int):=za;have h5:=HR.o k hlt;have h6:=O.o k hlt;have y:=zb (N.o k hlt);have C:=zb (HS.o k hlt);have m:=zb (P.o k hlt);have D:zd (MM.getD k []=NN.getD k []->∀i,i<k+1->MM.getD i []=NN.getD i []):=λhh i hi=>by
     by_cases e:i=k
     ·rw [e];exact hh
     ·exact I.o i za
    obtain⟨X,hX⟩:∃X,MM.getD k []=X:=⟨_,rfl⟩;obtain⟨Y,hY⟩:∃Y,NN.getD k []=Y:=⟨_,rfl⟩;rw [hX] at hc hv h5 y C D;rw [hY] at u v h6 y m D;obtain⟨lx,G⟩:∃l,X.length=l:=⟨_,rfl⟩;obtain⟨ly,H⟩:∃l,Y.length=l:=⟨_,rfl⟩;rw [G] at hc hv h5;rw [H] at u v h6;have HV:=zb hv;have s:=zb v;have a:=zb hB;clear hX hY hv v G H hB;by_cases h0:X=Y
    ·have HQ:=zb (decide_eq_true h0);have Q:=zb (D.o h0);clear h0;go_wp2_with fail;(with_reducible refine(iK HQ.o (HT.o _ a.o) HV.o s.o C.o m.o za za hK F).mono ?_);rintro e w3 ⟨rfl,hb⟩;have j:=zb (zc a.o hb);clear hb hc u HV s a;go_wp2;go_roundg (n - k)
     case measure=>omega
     case rel=>exact⟨k+1,za,za,by go_num,Q,j.o⟩
    ·have HQ:=zb (decide_eq_false h0);have HF:=zb (y.o h0);clear h0;go_wp2_with fail;(with_reducible refine(iK HQ.o (HT.o _ a.o) HV.o s.o C.o m.o za za hK F).mono ?_);rintro e w3 ⟨rfl,hb⟩;have j:=zb (zc a.o hb);clear hb hc u HV s a;go_wp2;go_ret;exact⟨by rw [<-HF.o];rfl,j.o⟩
   ·have hk:k=n:=za;subst hk;have R:decide ((k:Int)<(k:Int))=false:=zF;have HF:=zb (M.o I.o);have j:=zb hB;clear hB;go_wp2;go_ret;exact⟨by rw [<-HF.o];rfl,j.o⟩
 ·have e0:((n:Int) !=(n':Int))=true:=by rw [bne_iff_ne];omega
  have HF:zd (false=t):=by rw [<-e];exact(decide_eq_false (oc hl o hq)).symm
  clear h h' hT z z' hr E e hl o hq;go_enter func85,ntmps85;go_wp2;go_ret;exact⟨by rw [<-HF.o];rfl,qZ _ _⟩
theorem px {t:Bool}(e:decide (m=m'/\MM=NN)=t)(hT:zu w)(h:xm w A n c m MM)(h':xm w A' n' c' m' NN)(z:zW K MM)(z':zW K' NN)(hK:K<=67108864:=by omega)(j:K'<=67108864:=by omega):
  Calls prog 38 #[.agg #[.slice A n c,.int .i64 (m:Int)],.agg #[.slice A' n' c',.int .i64 (m':Int)]] w (λe w'=>e=.returned (.bool t)/\Below w.heap.size w w'):=by
 obtain⟨a,d,g,bz⟩:=yv w 28 28 #[.slice A n c,.int .i64 (m:Int)] #[.slice A' n' c',.int .i64 (m':Int)];obtain⟨g0,g1⟩:=d.c2;obtain⟨p0,p1⟩:=g.c2;by_cases hq:m=m'
 ·have e0:((m:Int)==(m':Int))=true:=by rw [beq_iff_eq];omega
  have e1:decide (MM=NN)=t:=by
   rw [<-e];by_cases hx:MM=NN
   ·rw [decide_eq_true hx,decide_eq_true ⟨hq,hx⟩]
   ·rw [decide_eq_false hx,decide_eq_false (λy=>hx y.2)]
  have hx:=h.hm;have hy:=h'.hm;have H:=zb (Qk (q:=c) (q':=c') e1 (hT.on a) (h.keep a).rows (h'.keep a).rows z z' (λL hL=>by rw [h.dims.cols L hL];exact hx) (λL hL=>by rw [h'.dims.cols L hL];exact hy) h.hn hK j);have HB:=zb a;clear h h' hT z z' a d g bz e e1 hq;go_enter func38,ntmps38;go_wp2_with fail;refine H.o.mono ?_;rintro e w1 ⟨rfl,hb⟩;have i:=zb (zc HB.o hb);clear hb g0 g1 p0 p1;go_wp2;go_ret;exact⟨rfl,i.o⟩
 ·have e0:((m:Int)==(m':Int))=false:=by rw [beq_eq_false_iff_ne];omega
  have HF:zd (false=t):=by rw [<-e];exact(decide_eq_false (λy=>hq y.1)).symm
  have HB:=zb a;clear h h' hT z z' a d g bz e hq;go_enter func38,ntmps38;go_wp2;go_ret;exact⟨by rw [<-HF.o];rfl,HB.o⟩
end
structure ew (w:World)(base g n cap:Nat)(Ls:List (List Rat)):Prop where
 ge:base<=g
 len:Ls.length=n
 fits:n<=cap
 most:cap<=9223372036854775807
 blk:∃cs:Array Value,zh w g 41 cs/\(∀u ∈ cs.toList,xg u)/\cs.size=cap
 num:∀i L,Ls[i]?=some L->∃(B:ze) (d:Nat),w.cell? ⟨g,i,none⟩=some (.slice B L.length d)/\zR w B L.length d L
theorem ew.below {w':World}{cap:Nat}(h:ew w a g n cap Ls)(hb:Below w.heap.size w w'):ew w' a g n cap Ls:=by
 refine⟨h.ge,h.len,h.fits,h.most,?_,λi L hi=>?_⟩
 ·obtain⟨cs,hk,h1,h2⟩:=h.blk;exact⟨cs,zg hb hk,h1,h2⟩
 ·obtain⟨B,d,h1,h2⟩:=h.num i L hi;exact⟨B,d,zw hb h1,zR.keep h2 hb⟩
theorem ew.rows {cap:Nat}(h:ew w a g n cap Ls):yx (yg zo) w (some ⟨g,0,none⟩) n Ls:=
 ⟨h.len,λi L hi=>by
  obtain⟨cs,hk,_⟩:=h.blk;obtain⟨B,d,h1,h2⟩:=h.num i L hi;exact⟨_,B,d,rfl,hk.lt,by rw [xv];exact h1,h2⟩⟩
def sP (a:Addr)(k c:Nat):Addr:=if c=k then a else a.add (k*3)
theorem p8 {a:Addr}(hk:k<=n)(hc:n<=c):Sem.run prog (Instr.slice 41 (.slice (some a) n c) (some (.int .i64 (k:Int))) none none) w=.ok (.slice (some (sP a k c)) (n - k) (c - k)) w:=by
 obtain⟨i1',g,hz10,d,hz12⟩:=info_parts lL;have h1:(0:Int)<=(k:Int):=za;have h2:(k:Int)<=(n:Int):=za;unfold sP;by_cases e:c=k
 ·have e2:n=k:=za;subst e;subst e2;simp [Instr.slice,Instr.sliceBounds,Instr.sliceBound,asIntOf,run_underlying underlying41,sizeOf,typeInfo,g,d,go_sem]
 ·rw [if_neg e];have e3:¬ c=k:=e;simp [Instr.slice,Instr.sliceBounds,Instr.sliceBound,asIntOf,run_underlying underlying41,sizeOf,typeInfo,g,d,go_sem,e3,h1,h2];intro h9;omega
theorem mV {a:Act}{o:Oper}{x y:Nat}(ho:o.op=.slice 41 (.tmp x) (some (.tmp y)) none none)(hx:a.eval (.tmp x)=.slice (some ad) n c)(hy:a.eval (.tmp y)=.int .i64 (k:Int))(hk:k<=n)(hc:n<=c):Sem.run prog (execOp a.eval o) w=.ok (.value (.slice (some (sP ad k c)) (n - k) (c - k))) w:=by
 unfold execOp;rw [ho];simp only [Option.map,hx,hy];simp [p8 hk hc,go_sem]
theorem bR {xs:List Rat}(h:zR w (some ad) n c xs)(hk:k<=n):zR w (some (sP ad k c)) (n - k) (c - k) (xs.drop k):=
 ⟨by rw [QE,h.len],by have:=h.fits;omega,by have:=h.most;omega,λi x hi=>by
  rw [yE] at hi;have hlt:k+i<n:=by have:=(List.getElem?_eq_some_iff.1 hi).1;have:=h.len;omega
  have h9:=h.num _ _ hi;have hf:=h.fits;have e:sP ad k c=ad.add (k*3):=if_neg za;rw [e];obtain⟨ad',b,B,m,d,F,u,v,e1,h1,h2,h3,h4,h5⟩:=h9;injection e1 with e1;subst e1;refine⟨_,b,B,m,d,F,u,v,rfl,by rw [y4];exact h1,?_,?_,?_,h5⟩
  ·rw [kk,<-QB];exact h2
  ·rw [kk,show k*3+(i*3+1)=(k+i)*3+1 by omega];exact h3
  ·rw [kk,show k*3+(i*3+2)=(k+i)*3+2 by omega];exact h4⟩
section
variable {ops:Array Oper}{Q:Exit->Act->World->Prop}{S:World->Prop}{fuel:Nat}{l:Array Bool}{a:Act}{w:World}
theorem fJ (i:Nat){o:Oper}{a':Act}{x y:Nat}{ad:Addr}{n c k:Nat}(hn:wpAnyH prog .any ops (NoPanic Q) S fuel (l.setIfInBounds i true) a' w)(h1:ops[i]?=some o:=by simp only [qT,qG,qR];rfl)(ho:o.op=.slice 41 (.tmp x) (some (.tmp y)) none none:=by rfl)(hx:a.eval (.tmp x)=.slice (some ad) n c:=by rfl)(hy:a.eval (.tmp y)=.int .i64 (k:Int):=by rfl)(hk:k<=n:=by omega)(hc:n<=c:=by omega)(h2:Region.noSelect ops=true:=by kernel_rfl)(h3:Region.free .any ops l i=true:=by kernel_rfl)(h4:(Region.ready .any ops l).contains i=true:=by kernel_rfl)(h5:Region.wanted o (yielded ops a.tmps)=true:=by rfl)(hS:S w:=by with_reducible assumption)(ha:a.put o.dst (.slice (some (sP ad k c)) (n - k) (c - k))=a':=by(simp only [z8];try rfl)):wpAnyH prog .any ops (NoPanic Q) S (fuel+1) l a w:=
 wpAnyH_take h1 h2 h3 h4 (λ_ _ _ h=>h) (Or.inl ⟨h5,λw hs=>mV ho hx hy hk hc⟩) hS (ha▸hn)
end
