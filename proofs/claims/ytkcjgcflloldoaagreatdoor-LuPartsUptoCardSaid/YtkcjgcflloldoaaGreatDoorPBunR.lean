/- What this claim leans on. -/
import Derived.Test.YtkcjgcflloldoaaGreatDoorPVArgs
set_option linter.unusedVariables false
set_option linter.unusedSimpArgs false
namespace Go.Proofs.YtkcjgcflloldoaaGreatDoor
open Go Go.RowKit Go.Proofs.Tryz
set_option maxHeartbeats 16000000
set_option maxRecDepth 100000
theorem YF (A:ze)(n c:Nat)(l:List Nat)(w:World)(hA:zL w w.heap.size 1 A n (zt .i64 l))(hl:zH 65536 l)(hc:n<=c)(hc':c<=9223372036854775807)(hn:n<=1099511627776):
  Calls prog 130 #[.slice A n c] w (vu w (dv 65536 l)):=by
 obtain⟨i0,z,B,C,D⟩:=info_parts kI;have HL:=zb hA.len_;go_enter func130,ntmps130;go_wp2
 go_loop [3] (λs=>∃m:Nat,m<=n/\s=.int .i64 m/\zd (dv 65536 (l.take m)=dv 65536 l)) (λs=>(intOf s).toNat)
 case atStart=>exact⟨n,qX _,rfl,by show _=_;rw [qV (by have:=HL.o;omega)]⟩
 case round=>
  obtain⟨m,hm,rfl,H⟩:=hrel;have done:(m=0\/l.getD (m - 1) 0≠0)->∀w' v,w'.ownsRow w.heap.size 3 1 v (0+m) ([]++zt .i64 (l.take m))->Below w.heap.size w w'->vu w (dv 65536 l) (.returned v) w':=by
   intro hz w' v ho hb;have e:=Sj zf hl (by have:=HL.o;omega) H.o hz;unfold vu;have e2:(dg 65536 (dv 65536 l)).length=0+m:=by rw [<-e,qL];have:=HL.o;omega
   rw [e2,<-e];exact Z1 (by simpa using ho) hb
  have DN:=zb done;clear done;have o:=hA.take_ hm;rw [UL] at o;by_cases hm0:m=0
  ·subst hm0;go_wp2_with (at_builtin;refine bP _ rfl (.tmp 19) (.tmp 22) 38 rfl w.heap.size 3 i0 (.int .i64 0) 1 8 underlying38 z B C D rfl zf (.slice none 0 0) 0 [] rfl (xJ _ _ _ _) _ A 0 c (zt .i64 (l.take 0)) rfl o (iO _ _) (by unfold maxLen;omega) za (qX _) ?_;intro v' w1 i a y);have t:Below w.heap.size w w1:=(qZ _ _).grown a (qX _) (λg hg=>by simp [Value.ownBlock] at hg);have G:=DN.o (by first|exact .inl rfl|simp) w1 v' i t;clear i a y t o;go_wp2;go_ret;exact G
  ·obtain⟨j,rfl⟩:∃j,m=j+1:=⟨m - 1,za⟩;obtain⟨ad,rfl,hadb,u⟩:=wQ hA (k:=j) za;by_cases hz:l.getD j 0=0
   ·have HM:=zb ((UT 65536 (l:=l) (n:=j) (by have:=HL.o;omega) hz).symm.trans H.o);rw [hz] at u;clear hz o;go_wp2
    go_round
    case rel=>exact⟨j,za,by go_num,HM⟩
    case measure=>simp only [intOf];omega
   ·have E:(((l.getD j 0:Nat):Int)==0)=false:=beq_eq_false_iff_ne.2 za;obtain⟨d,hd⟩:∃d,l.getD j 0=d:=⟨_,rfl⟩;have HZ:=zb hz;rw [hd] at u E;clear hz hd;go_wp2_with (at_builtin;refine bP _ rfl (.tmp 19) (.tmp 22) 38 rfl w.heap.size 3 i0 (.int .i64 0) 1 8 underlying38 z B C D rfl zf (.slice none 0 0) 0 [] rfl (xJ _ _ _ _) _ (some ad) (j+1) c (zt .i64 (l.take (j+1))) rfl o (iO _ _) (by unfold maxLen;omega) za (qX _) ?_;intro v' w1 i a y);have t:Below w.heap.size w w1:=(qZ _ _).grown a (qX _) (λg hg=>by simp [Value.ownBlock] at hg);have G:=DN.o (.inr HZ.o) w1 v' i t;clear i a y t o;go_wp2;go_ret;exact G
theorem bS {a:Nat}{t:TypeId}{v:Value}{n:Nat}{l:List Nat}{w:World}(ho:w.ownsRow a t 1 v n (zt .i64 l))(hl:zH 65536 l)(hn:n<=1099511627776):
  Calls prog 130 #[v] w (vu w (dv 65536 l)):=by
 obtain⟨A1,c1,rfl,g,d,c,_⟩:=Xi ho;exact YF A1 n c1 l w g hl d c hn
theorem Ry (A:ze)(n c k:Nat)(l:List Nat)(B:Nat)(w:World)(hA:zL w B 1 A n (zt .i64 l))(hk:k<n)(hn:n<=1099511627776):
  Calls prog 139 #[.slice A n c,.int .i64 k] w λe w'=>e=.returned (.int .i64 (l.getD k 0:Nat))/\w=w':=by
 obtain⟨ad,rfl,hadb,a⟩:=wQ hA hk;obtain⟨d,hd⟩:∃d,l.getD k 0=d:=⟨_,rfl⟩;rw [hd] at a⊢;clear hd;go_enter func139,ntmps139;go_wp2;go_ret;exact⟨rfl,rfl⟩
theorem RC (A:ze)(n c:Nat)(k:Int)(w:World)(hk:k<0\/(n:Int)<=k):
  Calls prog 139 #[.slice A n c,.int .i64 k] w λe w'=>e=.returned (.int .i64 0)/\w=w':=by
 by_cases h:k<0
 ·go_enter func139,ntmps139;go_wp2;go_ret;exact⟨rfl,rfl⟩
 ·have h2:(n:Int)<=k:=za;clear hk;go_enter func139,ntmps139;go_wp2;go_ret;exact⟨rfl,rfl⟩
theorem iI (A:ze)(n c:Nat)(k:Nat)(l:List Nat)(B:Nat)(w:World)(hA:zL w B 1 A n (zt .i64 l))(hn:n<=1099511627776):
  Calls prog 139 #[.slice A n c,.int .i64 k] w λe w'=>e=.returned (.int .i64 (l.getD k 0:Nat))/\w=w':=by
 by_cases hk:k<n
 ·exact Ry A n c k l B w hA hk hn
 ·have e:l.getD k 0=0:=by rw [qQ,QE (by have:=hA.len_;omega)];rfl
  rw [e];exact RC A n c k w (.inr za)
theorem Oz (k:Nat)(hk:k<=15)(w:World):
  Calls prog 154 #[.int .i64 k] w λe w'=>e=.returned (.int .i64 (2^k:Nat))/\w=w':=by
 go_enter func154,ntmps154;go_wp2
 go_loop [3,4] (λs i=>∃j:Nat,j<=k/\i=.int .i64 j/\s=.int .i64 (2^j:Nat)) (λ_ i=>k - (intOf i).toNat)
 case atStart=>exact⟨0,QQ _,rfl,rfl⟩
 case round=>
  obtain⟨j,hj,rfl,rfl⟩:=hrel;have hp:2^j<=2^15:=qG zf za;have HS:zd (2^(j+1)=2*2^j):=by show _=_;rw [qO,qB]
  obtain⟨p,he⟩:∃p,2^j=p:=⟨_,rfl⟩;by_cases h:j<k
  ·rw [he] at hp HS⊢;clear he;have hp':p<=32768:=by simpa using hp
   go_wp2
   go_round
   case rel=>exact⟨j+1,za,by go_num,by rw [HS.o];go_num⟩
   case measure=>simp only [intOf];omega
  ·have a:j=k:=za;subst a;clear he;go_wp2;go_ret;exact⟨rfl,rfl⟩
theorem Vx (k:Nat)(w:World):Calls prog 154 #[.int .i64 ((k:Int)%16)] w λe w'=>e=.returned (.int .i64 (2^(k%16):Nat))/\w=w':=by
 have h:=Oz (k%16) za w;rw [show((k%16:Nat):Int)=(k:Int)%16 from by omega] at h;exact h
theorem cM (x y:Nat)(A D:ze)(n m c d:Nat)(w:World)(hA:zE w x A n c)(hD:zE w y D m d)(hn:n<=1099511627776)(hm:m<=1099511627776):
  Calls prog 43 #[.slice A n c,.slice D m d] w λe w'=>e=.returned (.int .i64 (yg x y))/\∃q,w'=w.drewN q:=by
 have o:=hA.len;have a:=hD.len;obtain⟨hA,_,_⟩:=hA;obtain⟨hD,_,_⟩:=hD;by_cases hlt:n<m
 ·have C:=zb (sh (gn (b:=65536) zf (x:=x) (y:=y) za));clear o a;go_enter func43,ntmps43;go_wp2;go_ret;exact⟨by rw [C.o];rfl,0,rfl⟩
 by_cases hgt:m<n
 ·have C:=zb (s4 (gn (b:=65536) zf (x:=y) (y:=x) za));clear o a;go_enter func43,ntmps43;go_wp2;go_ret;exact⟨by rw [C.o];rfl,0,rfl⟩
 have s:m=n:=za;subst s;have H0:zd (x / 65536^m=y / 65536^m):=by
  show _=_;rw [QB (by rw [o];exact yv zf x),QB (by rw [a];exact yv zf y)]
 clear o a hlt hgt;go_enter func43,ntmps43;go_wp2
 go_loopg [5] (m+1) (λg i wr=>∃(k q:Nat),k<=m/\i=.int .i64 ((k:Int) - 1)/\zd (x / 65536^k=y / 65536^k)/\k<g/\wr=w.drewN q)
 case atStart=>exact⟨m,0,qX _,rfl,H0,Nat.lt_succ_self _,rfl⟩
 case round=>
  obtain⟨k,q,hk,rfl,H,hg,rfl⟩:=hrel;by_cases hk0:k=0
  ·subst hk0;have C:=zb (ku (x:=x) (y:=y) (by have:=H.o;simpa using this));go_wp2;go_ret;exact⟨by rw [C.o];rfl,q,rfl⟩
  ·obtain⟨j,rfl⟩:∃j,k=j+1:=⟨k - 1,za⟩;obtain⟨ad,rfl,hadb,h1⟩:=wQ hA (k:=j) za;obtain⟨ae,rfl,haeb,h2⟩:=wQ hD (k:=j) za;rw [ng] at h1 h2;have L1:=zb (λh=>bF (b:=65536) H.o h);have L2:=zb (λh=>bF (b:=65536) H.o.symm h);have L3:=zb (λh=>qe (b:=65536) H.o h);obtain⟨p,hp⟩:∃p,x / 65536^j%65536=p:=⟨_,rfl⟩;obtain⟨r,hr⟩:∃p,y / 65536^j%65536=p:=⟨_,rfl⟩;rw [hp,hr] at L1 L2 L3;rw [hp] at h1;rw [hr] at h2;clear hp hr;rcases XV p r with h|h|h
   ·have C:=zb (sh (L1.o h));have e1:decide ((p:Int)<r)=true:=by simpa using h
    go_wp2
    go_quiet (fail)
    go_wp2;go_ret;exact⟨by rw [C.o];rfl,by simp only [World.drewN_drewN];exact⟨_,rfl⟩⟩
   ·have M:=zb (L3.o h);subst h;clear L1 L2 L3;go_wp2
    go_quiet (fail)
    go_wp2
    go_quiet (fail)
    go_wp2;go_roundg (j+1)
    case measure=>omega
    case rel=>exact⟨j,_,za,by go_num,M,za,rfl⟩
   ·have C:=zb (s4 (L2.o h));have e1:decide ((p:Int)<r)=false:=by simp;omega
    have e2:decide ((r:Int)<p)=true:=by simpa using h
    go_wp2
    go_quiet (fail)
    go_wp2
    go_quiet (fail)
    go_wp2;go_ret;exact⟨by rw [C.o];rfl,by simp only [World.drewN_drewN];exact⟨_,rfl⟩⟩
theorem lv (A:ze)(n c:Nat)(l:List Nat)(w:World)(hA:zL w w.heap.size 1 A n (zt .u64 l))(hl:zH 18446744073709551616 l)(hn:n<=68719476736):
  Calls prog 91 #[.slice A n c] w (vu w (dv 18446744073709551616 l)):=by
 obtain⟨i0,Z,ac,ae,af⟩:=info_parts kI;have HL:=zb hA.len_;go_enter func91,ntmps91;go_wp2
 go_loopg [3,4,5,6] (n + 1) (fun g v i _ _ wr => ∃ (k : Nat) (D : List Nat),k ≤ n ∧ n < g + k ∧ i = .int .i64 k ∧ D.length = 4 * k ∧ zH 65536 D ∧ dv 65536 D = dv 18446744073709551616 (l.take k) ∧
   wr.ownsRow w.heap.size 3 1 v (4*k) (zt .i64 D)/\Below w.heap.size w wr)
 case atStart=>exact⟨0,[],QQ _,za,rfl,rfl,by intro d hd;simp at hd,by simp [dv],xJ _ _ _ _,qZ _ _⟩
 case round=>
  obtain⟨k,D,hk,hg,rfl,z,F,hv,B,J⟩:=hrel;by_cases hlt:k<n
  ·obtain⟨ad,rfl,O,P⟩:=wQ hA hlt;have K:wr.cell? (ad.add k)=some (.int .u64 (l.getD k 0:Nat)):=(J.cell (by rw [yw];exact O)).trans P;have hw:=hl.getD zf k;have HT:=zb (uv 18446744073709551616 l k);obtain⟨x,hx⟩:∃x,l.getD k 0=x:=⟨_,rfl⟩;rw [hx] at K hw HT;have HV:=zb hv;have N:=zb z;have S:=zb F;clear P hx hv z F;go_wp2
   go_loopg [3,5,6] 5 (fun g v s i wq => ∃ (j : Nat) (E : List Nat),j ≤ 4 ∧ 4 < g + j ∧ i = .int .i64 j ∧ s = .int .u64 ((x / 65536 ^ j : Nat) : Int) ∧ E.length = 4 * k + j ∧ zH 65536 E ∧
     dv 65536 E=dv 18446744073709551616 (l.take k)+18446744073709551616^k*(x%65536^j)/\wq.ownsRow w.heap.size 3 1 v (4*k+j) (zt .i64 E)/\Below w.heap.size w wq)
   case atStart=>exact⟨0,D,QQ _,za,rfl,zG,N.o,S.o,by rw [HV.o];simp [XU],B,J⟩
   case round=>
    obtain⟨j,E,hj,hgj,rfl,rfl,a,t,G,o,m⟩:=hrel;by_cases hj4:j<4
    ·have HS:=zb (lj (i:=k) a G);have ab:x / 65536^j<18446744073709551616:=QO (QI _ _) hw;have HD:zd (x / 65536^(j+1)=x / 65536^j / 65536):=by show _=_;rw [qO,<-xB]
     obtain⟨y,hy⟩:∃y,x / 65536^j=y:=⟨_,rfl⟩;rw [hy] at HS ab HD⊢;have I:=zb a;have H:=zb t;clear hy a t G;go_wp2_with (at_builtin;refine wpList_append_own _ rfl _ _ 38 rfl w.heap.size 3 i0 (.int .i64 0) 1 8 underlying38 Z ac ae af rfl zf _ _ _ rfl (o.alloc _) ⟨wr.heap.size,0,none⟩ 1 1 [.int .i64 ((y:Int)%65536)] rfl rfl (vI _ _ _) (jq _ _) (by unfold maxLen;omega) za (by have:=m.size;simp;omega) ?_;intro v' w1 C u _);have U:Below w.heap.size w w1:=(m.alloc m.size _).grown u (by have:=m.size;simp;omega) (λg hg=>(o.lt g hg).1);have M:w1.ownsRow w.heap.size 3 1 v' (4*k+(j+1)) (zt .i64 (E++[y%65536])):=by
      rw [sE];simpa [zt,xH] using C
     clear C u o m;go_wp2;go_roundg (gk - 1)
     case measure=>omega
     case rel=>exact⟨j+1,_,za,za,by go_num,by rw [HD.o];go_num,by simp [I.o,xH],H.o.append (by intro d hd;simp at hd;subst hd;exact QA _ zf),HS.o,M,U⟩
    ·have hj:j=4:=za;subst hj;have HF:zd (dv 65536 E=dv 18446744073709551616 (l.take (k+1))):=by
      show _=_;rw [G,HT.o,show x%65536^4=x from qS za]
     have I:=zb a;have H:=zb t;clear G a t;go_wp2;go_roundg (n - k)
     case measure=>omega
     case rel=>exact⟨k+1,E,za,za,by go_num,by rw [I.o];omega,H.o,HF.o,o,m⟩
  ·have aa:k=n:=za;subst aa;rw [qV (by have:=HL.o;omega)] at hv;obtain⟨A1,c1,rfl,R,K,Q,_⟩:=Xi B;have T:=YF A1 (4*k) c1 D wr R F K Q za;rw [hv] at T;have HT:=zb T;clear T hv F z B R;go_wp2_with fail;refine HT.o.mono ?_;intro e w2 L;have X:=L.from_ J;obtain⟨A2,n2,c2,rfl,Y,V⟩:=L.elim;clear L Y V;go_wp2_with fail;go_ret;exact X
theorem Ul (x:Nat)(A:ze)(n c:Nat)(w:World)(hA:zE w x A n c)(hn:n<=1099511627776):
  Calls prog 105 #[.slice A n c] w (jy w x):=by
 obtain⟨i0,M,N,O,P⟩:=info_parts o6;have F:=zb hA.len;have hR:=hA.1;go_enter func105,ntmps105;go_wp2
 go_loopg [3,4,5,6] (n+1) (λg v i _ _ wr=>∃(j:Nat) (L:List Nat),(j=0\/4*(j - 1)<n)/\n<g+j/\i=.int .i64 (4*(j:Int))/\kt x j L/\wr.ownsRow w.heap.size 125 1 v j (zt .u64 L)/\Below w.heap.size w wr)
 case atStart=>exact⟨0,[],.inl rfl,za,rfl,kt.start x,xJ _ _ _ _,qZ _ _⟩
 case round=>
  obtain⟨j,L,hj,hg,rfl,u,o,d⟩:=hrel;by_cases hlt:4*j<n
  ·have HS:=zb u.step;have G:=hR.below d;have DG:=zb (fun(k:Nat)=>iI A n c k _ _ wr G hn);clear u G;have hj40:j<=1099511627776:=za;have hb4:decide (4*(j:Int)<(n:Int))=true:=by simp;omega
   go_wp2
   go_loopg [5,6] 5 (λg s i wq=>∃m:Nat,m<=4/\m<g/\i=.int .i64 ((m:Int) - 1)/\s=.int .u64 ((x / 65536^(4*j+m)%65536^(4 - m):Nat):Int)/\wq=wr)
   case atStart=>exact⟨4,za,za,rfl,by simp [XU],rfl⟩
   case round=>
    obtain⟨m,hm,hgm,rfl,rfl,rfl⟩:=hrel;by_cases hm0:m=0
    ·subst hm0;obtain⟨y,hy⟩:∃y,x / 65536^(4*j)%65536^4=y:=⟨_,rfl⟩;simp only [XX,Nat.sub_zero,hy];rw [hy] at HS;clear hy;go_wp2_with (at_builtin;refine wpList_append_own _ rfl _ _ 48 rfl w.heap.size 125 i0 (.int .u64 0) 1 8 underlying48 M N O P rfl zf _ _ _ rfl (o.alloc _) ⟨wr.heap.size,0,none⟩ 1 1 [.int .u64 (y:Int)] rfl rfl (vI _ _ _) (jq _ _) (by unfold maxLen;omega) za (by have:=d.size;simp;omega) ?_;intro v' w1 B z _);have J:Below w.heap.size w w1:=(d.alloc d.size _).grown z (by have:=d.size;simp;omega) (λg hg=>(o.lt g hg).1);have D:w1.ownsRow w.heap.size 125 1 v' (j+1) (zt .u64 (L++[y])):=by
      rw [sE];simpa [zt] using B
     clear B z o d;go_wp2;go_roundg (n - j)
     case measure=>omega
     case rel=>exact⟨j+1,_,.inr za,za,by go_num,HS.o,D,J⟩
    ·obtain⟨q,rfl⟩:∃q,m=q+1:=⟨m - 1,za⟩;have E:=Md x (4*j+q) (4 - (q+1));rw [show 4 - (q+1)+1=4 - q from by omega] at E;have t:x / 65536^(4*j+(q+1))%65536^(4 - (q+1))*65536+x / 65536^(4*j+q)%65536=x / 65536^(4*j+q)%65536^(4 - q):=E;have D1:=DG.o (4*j+q);rw [ng] at D1;have C:x / 65536^(4*j+(q+1))%65536^(4 - (q+1))<65536^3:=qJ (QA _ (XB zf)) (qG zf za);have K:x / 65536^(4*j+q)%65536<65536:=QA _ zf;obtain⟨a,ha⟩:∃a,x / 65536^(4*j+(q+1))%65536^(4 - (q+1))=a:=⟨_,rfl⟩;obtain⟨b,hb⟩:∃a,x / 65536^(4*j+q)%65536=a:=⟨_,rfl⟩;rw [ha] at t C⊢;rw [hb] at t K D1;have I:=zb t;rw [show((4*j+q:Nat):Int)=4*(j:Int)+(q:Int) from by omega] at D1;have H:=zb D1;have hb1':a<281474976710656:=by simpa using C
     clear E t ha hb D1 C HS;go_wp2_with fail;refine H.o.mono ?_;rintro e w' ⟨rfl,rfl⟩;go_wp2_with fail;go_roundg (q+1)
     case measure=>omega
     case rel=>exact⟨q,za,za,by go_num,by rw [<-I.o];go_num,rfl⟩
  ·have e:=u.done (by have:=F.o;omega) (by have:=F.o;omega);have HE:zd (j=(dg 18446744073709551616 x).length):=by show _=_;rw [<-e,u.len]
   have HG:zd (∀w' v,w'.ownsRow w.heap.size 125 1 v j (zt .u64 L)->Below w.heap.size w w'->jy w x (.returned v) w'):=by
    intro w' v ho hb;unfold jy;rw [<-e,u.len];exact Z1 ho hb
   clear e u;go_wp2;go_ret;exact HG.out _ _ o d
theorem lu (x:Nat)(A D:ze)(n c m d:Nat)(w:World)(hA:zE w x A n c)(hn:n<=1099511627776)(hD:zL w w.heap.size 1 D m (zt .u64 (dg 18446744073709551616 x)))(hm:m<=1099511627776):
  Calls prog 102 #[.slice A n c,.slice D m d] w λe w'=>e=.returned (.bool true)/\Below w.heap.size w w':=by
 have W1:=Ul x A n c w hA hn;unfold jy at W1;obtain⟨L,hL⟩:∃L,dg 18446744073709551616 x=L:=⟨_,rfl⟩;rw [hL] at W1 hD;have a:=hD.len_;rw [a] at W1;have HW:=zb W1;clear W1 a hL;go_enter func102,ntmps102;go_wp2_with fail;refine HW.o.mono ?_;rintro e w1 ⟨A1,c1,rfl,s,hc1,⟨_,_⟩,j⟩;have o:=hD.below j;go_wp2_with fail
 go_loopg [6] (m+1) (λg i wr=>∃(k q:Nat),k<=m/\m<g+k/\i=.int .i64 k/\wr=w1.drewN q)
 case atStart=>exact⟨0,0,QQ _,za,rfl,rfl⟩
 case round=>
  obtain⟨k,q,hk,hg,rfl,rfl⟩:=hrel;by_cases hlt:k<m
  ·obtain⟨ad,rfl,hadb,h1⟩:=wQ s (k:=k) hlt;obtain⟨ae,rfl,haeb,h2⟩:=wQ o (k:=k) hlt;obtain⟨p,hp⟩:∃p,L.getD k 0=p:=⟨_,rfl⟩;rw [hp] at h1 h2;clear hp;go_wp2
   go_quiet (fail)
   go_wp2;go_roundg (m - k)
   case measure=>omega
   case rel=>exact⟨k+1,_,za,za,by go_num,rfl⟩
  ·go_wp2;go_ret;exact⟨rfl,uY j q⟩
theorem Xq (x y:Nat)(A D:ze)(n m c d:Nat)(w:World)(hA:zE w x A n c)(hD:zE w y D m d)(hn:n<=549755813888)(hm:m<=549755813888):
  Calls prog 133 #[.slice A n c,.slice D m d] w (vu w (x+y)):=by
 obtain⟨i0,X,Y,Z,aa⟩:=info_parts kI;have G:=zb hA.len;have F:=zb hD.len;have hR:=hA.1;have hS:=hD.1;go_enter func133,ntmps133;go_wp2
 go_loopg [5,6,7,8] (n + m + 2) (fun g v s i _ wr => ∃ (k cc : Nat) (out : List Nat),k ≤ n + m + 1 ∧ n + m + 1 < g + k ∧ (k = 0 ∨ k ≤ n ∨ k ≤ m ∨ (k ≤ n + 1 ∨ k ≤ m + 1) ∧ cc = 0) ∧ i = .int .i64 k ∧ s = .int .i64 cc ∧ kC x y k out cc ∧
   wr.ownsRow w.heap.size 3 1 v k (zt .i64 out)/\Below w.heap.size w wr)
 case atStart=>exact⟨0,0,[],za,za,.inl rfl,rfl,rfl,kC.start x y,xJ _ _ _ _,qZ _ _⟩
 case round=>
  obtain⟨k,cc,out,hk,hg,I,rfl,rfl,t,o,j⟩:=hrel;have hcc:=t.carry;by_cases hgo:k<n\/k<m\/0<cc
  ·have D1:=iI A n c k _ _ wr (hR.below j) za;have D2:=iI D m d k _ _ wr (hS.below j) za;rw [ng] at D1 D2;have N:x / 65536^k%65536<65536:=QA _ zf;have P:y / 65536^k%65536<65536:=QA _ zf;have B:=t.step rfl;have J:k=n/\k=m->cc=1:=za;have U:n<=k->m<=k->cc=1:=za;have HX:=zb (fun(h:n<=k) (h':m<=k)=>(show x / 65536^k%65536=0/\y / 65536^k%65536=0 from by
    refine⟨?_,?_⟩
    ·rw [QB (qJ (yv zf x) (qG zf (by have:=G.o;omega)))]
    ·rw [QB (qJ (yv zf y) (qG zf (by have:=F.o;omega)))]))
   obtain⟨a,ha⟩:∃a,x / 65536^k%65536=a:=⟨_,rfl⟩;obtain⟨b,hb⟩:∃a,y / 65536^k%65536=a:=⟨_,rfl⟩;rw [ha] at D1 N B HX;rw [hb] at D2 P B HX;have K:=zb D1;have L:=zb D2;have M:=zb B;have H:zd (k+1<=n+m+1/\(k+1=0\/k+1<=n\/k+1<=m\/(k+1<=n+1\/k+1<=m+1)/\(a+b+cc) / 65536=0)):=by
    refine⟨za,?_⟩;by_cases h1:k<n
    ·exact .inr (.inl za)
    ·by_cases h2:k<m
     ·exact .inr (.inr (.inl za))
     ·have:=HX.o za za;exact .inr (.inr (.inr ⟨za,za⟩))
   clear D1 D2 B ha hb t HX J U I;go_wp2_with fail
   all_goals
    refine K.o.mono ?_
    rintro e w' ⟨rfl,rfl⟩
    go_wp2_with fail
    refine L.o.mono ?_
    rintro e w' ⟨rfl,rfl⟩
    go_wp2_with (at_builtin;refine wpList_append_own _ rfl _ _ 38 rfl w.heap.size 3 i0 (.int .i64 0) 1 8 underlying38 X Y Z aa rfl zf _ _ _ rfl (o.alloc _) ⟨wr.heap.size,0,none⟩ 1 1 [.int .i64 (((a:Int)+(b:Int)+(cc:Int))%65536)] rfl rfl (vI _ _ _) (jq _ _) (by unfold maxLen;omega) za (by have:=j.size;simp;omega) ?_;intro v' w1 z u _)
    have O:Below w.heap.size w w1:=(j.alloc j.size _).grown u (by have:=j.size;simp;omega) (λg hg=>(o.lt g hg).1)
    have E:w1.ownsRow w.heap.size 3 1 v' (k+1) (zt .i64 (out++[(a+b+cc)%65536])):=by
     rw [sE];simpa [zt] using z
    clear z u o j
    go_wp2
    go_roundg (n+m+1 - k)
    case measure=>omega
    case rel=>exact⟨k+1,_,_,H.o.1,za,H.o.2,by go_num,by go_num,M.o,E,O⟩
  ·have R:cc=0:=za;subst R;have e:=t.done (by have:=G.o;omega) (by have:=F.o;omega);have T:=bS o t.dgs za;rw [e] at T;have HT:=zb T;clear e T t o I;go_wp2_with fail;refine HT.o.mono ?_;intro e w2 C;have S:=C.from_ j;obtain⟨A2,n2,c2,rfl,V,Q⟩:=C.elim;clear C V Q;go_wp2_with fail;go_ret;exact S
theorem aB (x mm a:Nat)(A:ze)(n c:Nat)(w:World)(hA:zE w x A n c)(hn:n<=549755813888)(V:mm<65536)(ha:a<65536):
  Calls prog 135 #[.slice A n c,.int .i64 mm,.int .i64 a] w (vu w (x*mm+a)):=by
 obtain⟨i0,G,H,I,J⟩:=info_parts kI;have K:=zb hA.len;have hR:=hA.1;go_enter func135,ntmps135;go_wp2
 go_loopg [7,8,9,10] (n + 1) (fun g v s i _ wr => ∃ (k cc : Nat) (out : List Nat),k ≤ n ∧ n < g + k ∧ i = .int .i64 k ∧ s = .int .i64 cc ∧ ko x mm a k out cc ∧
   wr.ownsRow w.heap.size 3 1 v k (zt .i64 out)/\Below w.heap.size w wr)
 case atStart=>exact⟨0,a,[],za,za,rfl,rfl,ko.start x mm a ha,xJ _ _ _ _,qZ _ _⟩
 case round=>
  obtain⟨k,cc,out,hk,hg,rfl,rfl,u,o,d⟩:=hrel;have hcc:=u.carry;by_cases hlt:k<n
  ·obtain⟨ad,rfl,E,F⟩:=wQ hR hlt;have z:wr.cell? (ad.add k)=some (.int .i64 ((dg 65536 x).getD k 0:Nat)):=(d.cell (by rw [yw];exact E)).trans F;rw [ng] at z;have N:x / 65536^k%65536<65536:=QA _ zf;have D:=u.step V rfl;obtain⟨b,hb⟩:∃b,x / 65536^k%65536=b:=⟨_,rfl⟩;rw [hb] at z N D;have S:b*mm<=65535*65535:=Nat.mul_le_mul za za;have C:(b:Int)*(mm:Int)=((b*mm:Nat):Int):=(xX b mm).symm;have L:=zb C;have U:(0:Int)<=(b:Int)*(mm:Int)/\(b:Int)*(mm:Int)<=4294836225:=by rw [C];omega
   obtain⟨hm30,hm31⟩:=U;have M:=zb D;clear D hb u F S C;go_wp2_with (at_builtin;refine wpList_append_own _ rfl _ _ 38 rfl w.heap.size 3 i0 (.int .i64 0) 1 8 underlying38 G H I J rfl zf _ _ _ rfl (o.alloc _) ⟨wr.heap.size,0,none⟩ 1 1 [.int .i64 (((b:Int)*(mm:Int)+(cc:Int))%65536)] rfl rfl (vI _ _ _) (jq _ _) (by unfold maxLen;omega) za (by have:=d.size;simp;omega) ?_;intro v' w1 m j _);have y:Below w.heap.size w w1:=(d.alloc d.size _).grown j (by have:=d.size;simp;omega) (λg hg=>(o.lt g hg).1);have t:w1.ownsRow w.heap.size 3 1 v' (k+1) (zt .i64 (out++[(b*mm+cc)%65536])):=by
    rw [sE];simpa [zt] using m
   clear m j o d z;go_wp2;go_roundg (n - k)
   case measure=>omega
   case rel=>exact⟨k+1,_,_,za,za,by go_num,by rw [L.o];go_num,M.o,t,y⟩
  ·have R:k=n:=za;subst R;have hd:=u.done (by have:=K.o;omega);have HD:=zb hd;clear hd u;go_wp2_with (first
    |(at_builtin;refine wpList_append_own _ rfl _ _ 38 rfl w.heap.size 3 i0 (.int .i64 0) 1 8 underlying38 G H I J rfl zf _ _ _ rfl (o.alloc _) ⟨wr.heap.size,0,none⟩ 2 2 [.int .i64 ((cc:Int)%65536),.int .i64 ((cc:Int) / 65536)] rfl rfl (Pd _ _ _ _) (O7 _ _ _) (by unfold maxLen;omega) za (by have:=d.size;simp;omega) ?_;intro v' w1 m j _)
    |fail)
   have y:Below w.heap.size w w1:=(d.alloc d.size _).grown j (by have:=d.size;simp;omega) (λg hg=>(o.lt g hg).1);have t:w1.ownsRow w.heap.size 3 1 v' (k+2) (zt .i64 (out++[cc%65536,cc / 65536])):=by
    rw [sE];simpa [zt] using m
   have T:=bS t HD.o.2 za;rw [HD.o.1] at T;have HT:=zb T;clear T t m j o d;go_wp2_with fail;refine HT.o.mono ?_;intro e w2 B;have P:=B.from_ y;obtain⟨A2,n2,c2,rfl,Q,O⟩:=B.elim;clear B Q O;go_wp2_with fail;go_ret;exact P
theorem ki (x y:Nat)(Z:y<=x)(A D:ze)(n m c d:Nat)(w:World)(hA:zE w x A n c)(hD:zE w y D m d)(hn:n<=549755813888)(hm:m<=549755813888):
  Calls prog 137 #[.slice A n c,.slice D m d] w (vu w (x - y)):=by
 obtain⟨i0,M,N,O,P⟩:=info_parts kI;have Q:=zb hA.len;have hR:=hA.1;have hS:=hD.1;go_enter func137,ntmps137;go_wp2
 go_loopg [5,6,7,8] (n + 1) (fun g v s i _ wr => ∃ (k cc : Nat) (out : List Nat),k ≤ n ∧ n < g + k ∧ i = .int .i64 k ∧ s = .int .i64 cc ∧ kF x y k out cc ∧
   wr.ownsRow w.heap.size 3 1 v k (zt .i64 out)/\Below w.heap.size w wr)
 case atStart=>exact⟨0,0,[],za,za,rfl,rfl,kF.start x y,xJ _ _ _ _,qZ _ _⟩
 case round=>
  obtain⟨k,cc,out,hk,hg,rfl,rfl,B,t,o⟩:=hrel;have hcc:=B.lack;by_cases hlt:k<n
  ·obtain⟨ad,rfl,K,L⟩:=wQ hR hlt;have E:wr.cell? (ad.add k)=some (.int .i64 ((dg 65536 x).getD k 0:Nat)):=(o.cell (by rw [yw];exact K)).trans L;rw [ng] at E;have D2:=λq=>iI D m d k _ _ (wr.drewN q) ((hS.below o).drewN q) za;rw [ng] at D2;have R:x / 65536^k%65536<65536:=QA _ zf;have S:y / 65536^k%65536<65536:=QA _ zf;have F:=fun(d c':Nat)=>B.step (d:=d) (c':=c');obtain⟨a,ha⟩:∃b,x / 65536^k%65536=b:=⟨_,rfl⟩;obtain⟨b,hb⟩:∃b,y / 65536^k%65536=b:=⟨_,rfl⟩;rw [ha] at E R F;rw [hb] at D2 S F;have J:=zb D2;have C:=zb F;clear D2 F ha hb B L;by_cases hneg:a<b+cc
   ·have HN:=zb (C.o (a+65536 - b - cc) 1 za za za);have I:decide ((a:Int) - b - cc<0)=true:=by simp;omega
    clear C;go_wp2_with fail
    go_quiet ((go_at_call 139;exact jd (J.o _)))
    go_wp2_with (at_builtin;refine wpList_append_own _ rfl _ _ 38 rfl w.heap.size 3 i0 (.int .i64 0) 1 8 underlying38 M N O P rfl zf _ _ _ rfl ((t.drewN_ nq).alloc _) ⟨(wr.drewN nq).heap.size,0,none⟩ 1 1 [.int .i64 ((a:Int) - b - cc+65536)] rfl rfl (vI _ _ _) (jq _ _) (by unfold maxLen;omega) za (by have:=o.size;simp;omega) ?_;intro v' w1 j u _);have G:Below w.heap.size w w1:=((uY o nq).alloc o.size _).grown u (by have:=o.size;simp;omega) (λg hg=>(t.lt g hg).1);have ed:(a:Int) - (b:Int) - (cc:Int)+65536=((a+65536 - b - cc:Nat):Int):=za;rw [ed] at j;have z:w1.ownsRow w.heap.size 3 1 v' (k+1) (zt .i64 (out++[a+65536 - b - cc])):=by
     rw [sE];exact j
    clear j u t o E ed;go_wp2;go_roundg (n - k)
    case measure=>omega
    case rel=>exact⟨k+1,1,_,za,za,by go_num,rfl,HN.o,z,G⟩
   ·have HN:=zb (C.o (a - b - cc) 0 za za za);have I:decide ((a:Int) - b - cc<0)=false:=by simp;omega
    clear C;go_wp2_with fail
    go_quiet ((go_at_call 139;exact jd (J.o _)))
    go_wp2_with (at_builtin;refine wpList_append_own _ rfl _ _ 38 rfl w.heap.size 3 i0 (.int .i64 0) 1 8 underlying38 M N O P rfl zf _ _ _ rfl ((t.drewN_ nq).alloc _) ⟨(wr.drewN nq).heap.size,0,none⟩ 1 1 [.int .i64 ((a:Int) - b - cc)] rfl rfl (vI _ _ _) (jq _ _) (by unfold maxLen;omega) za (by have:=o.size;simp;omega) ?_;intro v' w1 j u _);have G:Below w.heap.size w w1:=((uY o nq).alloc o.size _).grown u (by have:=o.size;simp;omega) (λg hg=>(t.lt g hg).1);have ed:(a:Int) - (b:Int) - (cc:Int)=((a - b - cc:Nat):Int):=za;rw [ed] at j;have z:w1.ownsRow w.heap.size 3 1 v' (k+1) (zt .i64 (out++[a - b - cc])):=by
     rw [sE];exact j
    clear j u t o E ed;go_wp2;go_roundg (n - k)
    case measure=>omega
    case rel=>exact⟨k+1,0,_,za,za,by go_num,rfl,HN.o,z,G⟩
  ·have Y:k=n:=za;subst Y;have e:=B.done Z (by have:=Q.o;omega);have T:=bS t B.dgs za;rw [e] at T;have HT:=zb T;clear e T B t;go_wp2_with fail;refine HT.o.mono ?_;intro e w2 H;have V:=H.from_ o;obtain⟨A2,n2,c2,rfl,X,U⟩:=H.elim;clear H X U;go_wp2_with fail;go_ret;exact V
theorem Xr (x k:Nat)(A:ze)(n c:Nat)(w:World)(hA:zE w x A n c)(hn:n<=274877906944)(hk:k<=274877906944):
  Calls prog 134 #[.slice A n c,.int .i64 k] w (vu w (x*2^k)):=by
 obtain⟨i0,F,I,J,K⟩:=info_parts kI;have L:=zb hA.len;have HA:=zb hA;clear hA;go_enter func134,ntmps134;go_wp2
 go_loopg [5,6] (k / 16+1) (λg v i wr=>∃(j:Nat),j<=k / 16/\k / 16<g+j/\i=.int .i64 j/\wr.ownsRow w.heap.size 3 1 v j (zt .i64 (List.replicate j 0))/\Below w.heap.size w wr)
 case atStart=>exact⟨0,za,za,rfl,xJ _ _ _ _,qZ _ _⟩
 case round=>
  obtain⟨j,hj,hg,rfl,s,o⟩:=hrel;by_cases hlt:j<k / 16
  ·go_wp2_with (at_builtin;refine wpList_append_own _ rfl _ _ 38 rfl w.heap.size 3 i0 (.int .i64 0) 1 8 underlying38 F I J K rfl zf _ _ _ rfl (s.alloc _) ⟨wr.heap.size,0,none⟩ 1 1 [.int .i64 0] rfl rfl (vI _ _ _) (jq _ _) (by unfold maxLen;omega) za (by have:=o.size;simp;omega) ?_;intro v' w1 a d _);have y:Below w.heap.size w w1:=(o.alloc o.size _).grown d (by have:=o.size;simp;omega) (λg hg=>(s.lt g hg).1);have m:w1.ownsRow w.heap.size 3 1 v' (j+1) (zt .i64 (List.replicate (j+1) 0)):=by
    rw [List.replicate_succ',sE];exact a
   clear a d s o;go_wp2;go_roundg (k / 16 - j)
   case measure=>omega
   case rel=>exact⟨j+1,za,za,by go_num,m,y⟩
  ·have R:j=k / 16:=za;have P:=zb (Vx k wr);have hp:=T8 k;have S0:=aB x (2^(k%16)) 0 A n c wr (HA.o.below o) za za zf;have u:=Tc k;obtain⟨p,H⟩:∃p,2^(k%16)=p:=⟨_,rfl⟩;rw [H] at P hp S0 u;rw [XX] at S0;have S:=zb S0;have HF:zd (65536^j*(x*p)=x*2^k):=by
    show _=_;rw [R,<-u,<-qH,qB _ x,qH]
   have G:=wP (b:=65536) zf (x*p) (n+1) (by
    have h1:=yv (b:=65536) zf x;rw [<-L.o] at h1;rw [qO];exact Nat.mul_lt_mul_of_lt_of_le h1 za zf)
   clear u S0 H;go_wp2_with fail;refine P.o.mono ?_;rintro e w' ⟨rfl,rfl⟩;go_wp2_with fail;refine S.o.mono ?_;intro e w2 E;obtain⟨A2,n2,c2,rfl,C,z⟩:=E.elim;have hn2:n2<=n+1:=by rw [C.len];exact G
   have m:=OZ s z;have t:=o.trans (z.mono o.size);have D:=C.1;have hlen2:=D.len_;clear s C z o E;go_wp2_with (at_builtin;refine Rd _ rfl (.tmp 16) (.tmp 21) 38 39 rfl w.heap.size 3 3 i0 (.int .i64 0) 1 8 underlying38 lT F I J K rfl zf _ _ _ rfl m _ A2 n2 c2 (zt .i64 (dg 65536 (x*p))) rfl D (iO _ _) (by unfold maxLen;omega) za t.size ?_;intro v' w1 a d M);have y:Below w.heap.size w w1:=t.grown d t.size (λg hg=>(m.lt g hg).1);rw [<-sE] at a;have T:=bS a ((zH.zeros zf j).append (uA zf (x*p))) za;rw [tF,iK,yM,vw zf,xR,HF.o] at T;have HT:=zb T;clear T m a d t D M;go_wp2_with fail;refine HT.o.mono ?_;intro e w3 B;have O:=B.from_ y;obtain⟨A4,n4,c4,rfl,Q,N⟩:=B.elim;clear B Q N;go_wp2_with fail;go_ret;exact O
theorem PP {x n:Nat}(hx:(dg 65536 x).length=n+1):x / 65536^n%65536=x / 65536^n/\0<x / 65536^n/\x / 65536^n<65536/\bitLen x=16*n+bitLen (x / 65536^n):=by
 have a:x≠0:=by rintro rfl;simp [oW] at hx
 have h1:=yv (b:=65536) zf x;have h2:=(jA (b:=65536) zf x a).2;rw [hx] at h1 h2;have h3:x / 65536^n<65536:=(QM (XB zf)).2 (by rw [qB,<-qO];exact h1);have h4:0<x / 65536^n:=Nat.div_pos (by simpa using h2) (XB zf);refine⟨qS h3,h4,h3,?_⟩;have e:(65536:Nat)^n=2^(16*n):=by rw [show(65536:Nat)=2^16 from rfl,<-yL]
 rw [e] at h4⊢;exact bitLen_shift x (16*n) za
theorem PO (d j:Nat)(h0:d / 2^j=0)(h1:1<=j/\d / 2^(j - 1)≠0):bitLen d=j:=by
 obtain⟨i,rfl⟩:∃i,j=i+1:=⟨j - 1,za⟩;rw [Nat.add_sub_cancel] at h1;refine OF d i ?_ ?_
 ·rcases xW d (2^i) with h|h
  ·exact absurd (QB h) h1.2
  ·exact h
 ·rcases (Nat.div_eq_zero_iff).1 h0 with h|h
  ·have:=xZ (i+1);omega
  ·exact h
theorem Uw (x:Nat)(A:ze)(n c:Nat)(w:World)(hA:zE w x A n c)(hn:n<=274877906944):
  Calls prog 50 #[.slice A n c] w λe w'=>e=.returned (.int .i64 (bitLen x:Nat))/\w=w':=by
 have a:=hA.len;have hR:=hA.1;by_cases h0:n=0
 ·subst h0;have hx:x=0:=by
   have:=yv (b:=65536) zf x;rw [<-a] at this;simpa using this
  subst hx;clear a;go_enter func50,ntmps50;go_wp2;go_ret;exact⟨rfl,rfl⟩
 ·obtain⟨m,rfl⟩:∃m,n=m+1:=⟨n - 1,za⟩;obtain⟨t1,t2,t3,t4⟩:=PP (x:=x) (n:=m) a.symm;obtain⟨ad,rfl,hadb,hc⟩:=wQ hR (k:=m) za;rw [ng,t1] at hc;obtain⟨d,hd⟩:∃d,x / 65536^m=d:=⟨_,rfl⟩;rw [hd] at hc t2 t3 t4;have HT:=zb t4;have hz:(((m+1:Nat):Int)==0)=false:=beq_eq_false_iff_ne.2 za;clear a t1 hd t4 hA;go_enter func50,ntmps50;go_wp2
  go_loopg [3,4] 18 (λg s i wr=>∃j:Nat,j<=16/\16<g+j/\s=.int .i64 (16*(m:Int)+j)/\i=.int .i64 ((d / 2^j:Nat):Int)/\zd (j=0\/d / 2^(j - 1)≠0)/\wr=w)
  case atStart=>exact⟨0,za,za,by go_num,zG,.inl rfl,rfl⟩
  case round=>
   obtain⟨j,hj,hg,rfl,rfl,H,rfl⟩:=hrel;have HD:zd (d / 2^(j+1)=d / 2^j / 2):=by show _=_;rw [qO,<-xB]
   by_cases hz2:d / 2^j=0
   ·have HB:zd (bitLen x=16*m+j):=by
     show _=_;rw [HT.o,PO d j hz2 ?_];rcases H.o with h|h
     ·subst h;simp at hz2;omega
     ·refine⟨?_,h⟩;rcases xQ j with h2|h2
      ·subst h2;simp at hz2;omega
      ·exact h2
    rw [hz2];clear hz2;go_wp2;go_ret;exact⟨X7 (by rw [HB.o];go_num),rfl⟩
   ·have hj16:j<16:=by
     rcases xW j 16 with h|h
     ·exact h
     ·have:j=16:=za;subst this;exact absurd (QB (by simpa using t3)) hz2
    have HN:zd (j+1=0\/d / 2^(j+1 - 1)≠0):=.inr (by simpa using hz2);have o:d / 2^j<65536:=QO (QI _ _) t3;obtain⟨y,hy⟩:∃y,d / 2^j=y:=⟨_,rfl⟩;rw [hy] at hz2 HD o⊢;have hy0:0<y:=za;clear hy hz2;go_wp2;go_roundg (16 - j)
    case measure=>omega
    case rel=>exact⟨j+1,za,za,by go_num,by rw [HD.o];go_num,HN,rfl⟩
theorem nQ (x k:Nat):x / 65536^(k / 16)%65536 / 2^(k%16)%2=x / 2^k%2:=by
 have h1:x / 2^k=x / 65536^(k / 16) / 2^(k%16):=(lI x k).symm;rw [h1];generalize x / 65536^(k / 16)=y;obtain⟨j,hj⟩:∃j,k%16+(j+1)=16:=⟨15 - k%16,za⟩;have e:(65536:Nat)=2^(k%16)*2^(j+1):=by rw [<-xU,hj]
 have h2:y%65536 / 2^(k%16)=y / 2^(k%16)%2^(j+1):=by rw [e,Nat.mod_mul_right_div_self]
 rw [h2,qO,Nat.mod_mul_left_mod]
theorem p6 (x k:Nat)(A:ze)(n c:Nat)(w:World)(hA:zE w x A n c)(hn:n<=274877906944)(hk:k<=9223372036854775807):
  Calls prog 153 #[.slice A n c,.int .i64 k] w λe w'=>e=.returned (.int .i64 (x / 2^k%2:Nat))/\w=w':=by
 have D1:=iI A n c (k / 16) _ _ w hA.1 za;rw [ng,show((k / 16:Nat):Int)=(k:Int) / 16 from by omega] at D1;have P:=Vx k w;have hp:=T8 k;have m:0<2^(k%16):=xZ _;have hb:=nQ x k;have ha:x / 65536^(k / 16)%65536<65536:=QA _ zf;obtain⟨a,g⟩:∃a,x / 65536^(k / 16)%65536=a:=⟨_,rfl⟩;obtain⟨p,j⟩:∃p,2^(k%16)=p:=⟨_,rfl⟩;rw [g] at D1 hb ha;rw [j] at P hp m hb;obtain⟨b,i⟩:∃b,x / 2^k%2=b:=⟨_,rfl⟩;rw [i] at hb⊢;have HD:=zb D1;have HP:=zb P;have HB:=zb hb;have hpn:¬ p=0:=za;have hq:a / p<=a:=QI _ _;have d:(a:Int) / (p:Int)=((a / p:Nat):Int):=(Int.natCast_ediv a p).symm;have HQ:=zb d;have hq0:0<=(a:Int) / (p:Int):=by rw [d];exact Int.natCast_nonneg _
 have hq1:(a:Int) / (p:Int)<=65535:=by
  have h1:a / p<=65535:=qD hq za;rw [d];exact(Int.ofNat_le.2 h1:((a / p:Nat):Int)<=((65535:Nat):Int))
 clear D1 P hb g j i hA d;go_enter func153,ntmps153;go_wp2_with fail;refine HD.o.mono ?_;rintro e w' ⟨rfl,rfl⟩;go_wp2_with fail;refine HP.o.mono ?_;rintro e w' ⟨rfl,rfl⟩;go_wp2;go_ret;refine⟨X7 ?_,rfl⟩;show(a:Int) / (p:Int)%2=(b:Int);rw [HQ.o,<-HB.o];exact(Int.natCast_emod _ _).symm
