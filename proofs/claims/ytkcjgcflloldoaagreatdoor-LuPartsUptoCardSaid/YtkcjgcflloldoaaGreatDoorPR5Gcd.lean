/- What this claim leans on. -/
import Derived.Test.YtkcjgcflloldoaaGreatDoorPBun6r
set_option linter.unusedVariables false
set_option linter.unusedSimpArgs false
namespace Go.Proofs.YtkcjgcflloldoaaGreatDoor
open Go Go.RowKit Go.Proofs.Tryz
set_option maxHeartbeats 16000000
set_option maxRecDepth 100000
variable {c n p x:Nat}{w:World}{A:ze}
theorem V2 (x:Nat):((dg 65536 x).getD 0 0:Nat)%2=x%2:=by
 rw [ng,XM,Nat.div_one];omega
theorem gK (x:Nat)(A:ze)(n c:Nat)(w:World)(hA:zE w x A n c)(hn:n<=1099511627776)(h:x%2=0):
  Calls prog 151 #[.slice A n c] w λe w'=>e=.returned (.bool true)/\w=w':=by
 have hd:=iI A n c 0 _ _ w hA.1 hn;have he:=V2 x;rw [h] at he;obtain⟨k,hk⟩:∃k,(dg 65536 x).getD 0 0=k:=⟨_,rfl⟩;rw [hk] at hd he;have hd:Calls prog 139 #[.slice A n c,.int .i64 0] w λe w'=>e=.returned (.int .i64 (k:Int))/\w=w':=hd;have HD:=zb hd;have h1:(k:Int)%2=0:=za;have h2:(k:Int).tmod 2=0:=by rw [xC za];exact h1
 clear hd hk hA he;go_enter func151,ntmps151;go_wp2_with (go_at_call 139;(with_reducible refine HD.o.mono ?_);rintro e w' ⟨rfl,rfl⟩);go_ret;exact⟨rfl,rfl⟩
theorem gQ (x:Nat)(A:ze)(n c:Nat)(w:World)(hA:zE w x A n c)(hn:n<=1099511627776)(h:x%2≠0):
  Calls prog 151 #[.slice A n c] w λe w'=>e=.returned (.bool false)/\w=w':=by
 have hd:=iI A n c 0 _ _ w hA.1 hn;have he:=V2 x;obtain⟨k,hk⟩:∃k,(dg 65536 x).getD 0 0=k:=⟨_,rfl⟩;rw [hk] at hd he;have hd:Calls prog 139 #[.slice A n c,.int .i64 0] w λe w'=>e=.returned (.int .i64 (k:Int))/\w=w':=hd;have HD:=zb hd;have h1:(k:Int)%2=1:=za;have h2:(k:Int).tmod 2=1:=by rw [xC za];exact h1
 clear hd hk hA he h;go_enter func151,ntmps151;go_wp2_with (go_at_call 139;(with_reducible refine HD.o.mono ?_);rintro e w' ⟨rfl,rfl⟩);go_ret;exact⟨rfl,rfl⟩
theorem gR (x:Nat)(A:ze)(n c:Nat)(w:World)(hA:zE w x A n c)(hn:n<=274877906944):
  Calls prog 152 #[.slice A n c] w (vu w (x / 2)):=by
 have hh:Calls prog 166 #[.slice A n c,.int .i64 2] w (V9 w x 2):=Nl x 2 A n c w hA hn zf zf;have HH:=zb hh;clear hh hA;go_enter func152,ntmps152;go_wp2_with fail;refine HH.o.mono ?_;rintro e w1 ⟨v,rfl,hg⟩;have G:=zb hg;obtain⟨A1,n1,c1,he,_,_⟩:=hg.elim;injection he with he;subst he;go_wp2;go_ret;exact G.o
theorem ZI {q:Nat}(h:q%2≠0):Nat.gcd 2 q=1:=by
 have h1:Nat.gcd 2 q ∣ 2:=yR 2 q;have h2:=Nat.le_of_dvd zf h1;have h3:Nat.gcd 2 q≠0:=λe=>by rw [e] at h1;exact absurd (Nat.eq_zero_of_zero_dvd h1) zf
 have h4:Nat.gcd 2 q≠2:=λe=>h (Nat.mod_eq_zero_of_dvd (by rw [<-e];exact yK 2 q));omega
theorem gM {p q:Nat}(hp:p%2=0)(hq:q%2≠0):Nat.gcd (p / 2) q=Nat.gcd p q:=by
 have e:p=2*(p / 2):=za;have h:Nat.Coprime 2 q:=ZI hq;rw [show Nat.gcd p q=Nat.gcd (2*(p / 2)) q from by rw [<-e]];exact(h.gcd_mul_left_cancel (p / 2)).symm
theorem VJ {q:Nat}(hq:q%2=0)(hp:p%2≠0):Nat.gcd p (q / 2)=Nat.gcd p q:=by rw [XN,gM hq hp,XN]
theorem cS {q:Nat}(h:q<=p):Nat.gcd (p - q) q=Nat.gcd p q:=by
 obtain⟨s,rfl⟩:∃s,p=q+s:=⟨p - q,za⟩;rw [yO,Nat.gcd_self_add_left]
theorem nu {M N:Nat}(h:zE w x A n c)(hx:x<=M)(hM:(dg 65536 M).length<=N):n<=N:=by
 rw [h.len];exact qD (sf zf hx) hM
theorem dZ (h:zE w x A n c)(hx:x≠0):0<n:=by
 have h1:=yv (b:=65536) zf x;rw [<-h.len] at h1;rcases xQ n with h0|h0
 ·rw [h0] at h1;exact absurd (by simpa using h1) hx
 ·exact h0
theorem lM {y m K:Nat}(hx:(dg 65536 x).length=n)(hy:(dg 65536 y).length=m)(hn:n<=K)(hm:m<=K):(dg 65536 (x+y)).length<=K+1:=by
 have h1:=yv (b:=65536) zf x;have h2:=yv (b:=65536) zf y;rw [hx] at h1;rw [hy] at h2;have h3:65536^n<=65536^K:=qG zf hn;have h4:65536^m<=65536^K:=qG zf hm;refine wP zf _ _ ?_;rw [qO];omega
theorem p7 (x y:Nat)(A D:ze)(n m c d:Nat)(w:World)(hA:zE w x A n c)(hD:zE w y D m d)(hn:n<=1073741824)(hm:m<=1073741824)(hx:x≠0)(hy:y≠0):
  Calls prog 131 #[.slice A n c,.slice D m d] w (vu w (Nat.gcd x y)):=by
 have hn0:=dZ hA hx;have hm0:=dZ hD hy;obtain⟨N,hN⟩:∃N,(dg 65536 (x+y)).length=N:=⟨_,rfl⟩;have hN1:N<=1073741824+1:=by rw [<-hN];exact lM hA.len.symm hD.len.symm hn hm
 have HN:=zb (Nat.le_of_eq hN);have ad:∀t p,x=2^t*p->p≠0->t<=17179869184:=λt p e hp=>by
  have h1:=yv (b:=65536) zf x;rw [<-hA.len,show(65536:Nat)=2^16 from rfl,<-yL] at h1;have h2:2^t<=x:=by rw [e];exact Nat.le_mul_of_pos_right _ (xT hp)
  have h3:=(Nat.pow_lt_pow_iff_right (a:=2) zf).1 (QO h2 h1);omega
 have HT:=zb ad;have z1:((n:Int)==0)=false:=by simp;omega
 have z2:((m:Int)==0)=false:=by simp;omega
 have HA:=zb hA;have HD:=zb hD;have HX:=zb hx;have HY:=zb hy;have hB:=qZ w.heap.size w;clear hN ad hA hD hx hy;go_enter func131,ntmps131;go_wp2_with fail
 go_loopg [0,1,5] (x+1) (λg s0 s1 s5 wr=>∃(p q t:Nat) (A1:ze) (n1 c1:Nat) (A2:ze) (n2 c2:Nat),s0=.slice A1 n1 c1/\s1=.slice A2 n2 c2/\s5=.int .i64 (t:Int)/\p<g/\p≠0/\q≠0/\zd (x=2^t*p)/\zd (y=2^t*q)/\zd (zE wr p A1 n1 c1)/\zd (zE wr q A2 n2 c2)/\Below w.heap.size w wr)
 case atStart=>exact⟨x,y,0,A,n,c,D,m,d,rfl,rfl,rfl,za,HX.o,HY.o,by show _=_;simp,by show _=_;simp,HA,HD,hB⟩
 case round=>
  clear hB HA HD;obtain⟨p,q,t,A1,n1,c1,A2,n2,c2,rfl,rfl,rfl,hg,am,ae,J,L,hp,hq,hB⟩:=hrel;have hpx:p<=x:=by rw [J.o];exact Nat.le_mul_of_pos_left _ (xZ t)
  have hqy:q<=y:=by rw [L.o];exact Nat.le_mul_of_pos_left _ (xZ t)
  have htb:=HT.o t p J.o am;have n1l:=nu hp.o (show p<=x+y by omega) HN.o;have n2l:=nu hq.o (show q<=x+y by omega) HN.o;by_cases hpe:p%2=0
  ·have E1:=zb (gK p A1 n1 c1 wr hp.o za hpe);by_cases hqe:q%2=0
   ·have E2:=zb (gK q A2 n2 c2 wr hq.o za hqe);have HH:=zb (gR p A1 n1 c1 wr hp.o za);have ah:=zb (show x=2^(t+1)*(p / 2) by rw [qO,qH,show 2*(p / 2)=p by omega];exact J.o);have ai:=zb (show y=2^(t+1)*(q / 2) by rw [qO,qH,show 2*(q / 2)=q by omega];exact L.o);have m1:p / 2≠0/\q / 2≠0/\p / 2<p:=za;obtain⟨m1,m2,m3⟩:=m1;clear hpe hqe J L;go_wp2_with (first|(go_at_call 151;(with_reducible refine E1.o.mono ?_);rintro e w' ⟨rfl,rfl⟩)|(go_at_call 151;(with_reducible refine E2.o.mono ?_);rintro e w' ⟨rfl,rfl⟩));refine HH.o.mono ?_;intro e w1 i;obtain⟨A9,n9,c9,rfl,j,hb⟩:=i.elim;clear i;have hq:=zb (hq.o.below hb);have hB:=zc hB hb;have j:=zb j;have ac:=zb (gR q A2 n2 c2 w1 hq.o za);clear hb hp E1 E2 HH;go_wp2_with fail;refine ac.o.mono ?_;intro e w2 i;obtain⟨A8,n8,c8,rfl,T,hb⟩:=i.elim;have j:=zb (j.o.below hb);have hB:=zc hB hb;have T:=zb T;clear hb hq ac i;go_wp2;go_roundg p
    case measure=>omega
    case rel=>exact⟨p / 2,q / 2,t+1,A9,n9,c9,A8,n8,c8,rfl,rfl,by go_num,m3,m1,m2,ah,ai,j,T,hB⟩
   ·have E2:=zb (gQ q A2 n2 c2 wr hq.o za hqe);have u:p%2≠0\/q%2≠0:=.inr hqe;clear hpe;go_wp2_with (first|(go_at_call 151;(with_reducible refine E1.o.mono ?_);rintro e w' ⟨rfl,rfl⟩)|(go_at_call 151;(with_reducible refine E2.o.mono ?_);rintro e w' ⟨rfl,rfl⟩));clear E1 E2 hqe
    go_loopg [1] (q+1) (λg s1 wr=>∃(r:Nat) (A3:ze) (n3 c3:Nat),s1=.slice A3 n3 c3/\r<g/\r≠0/\r<=q/\(p%2≠0\/r%2≠0)/\zd (Nat.gcd p r=Nat.gcd p q)/\zd (zE wr p A1 n1 c1)/\zd (zE wr r A3 n3 c3)/\Below w.heap.size w wr)
    case atStart=>exact⟨q,A2,n2,c2,rfl,za,ae,qX _,u,rfl,hp,hq,hB⟩
    case round=>
     clear hp hq hB u;obtain⟨r,A3,n3,c3,rfl,ao,an,ap,u,F,hp,hr,hB⟩:=hrel;have aq:=nu hr.o (show r<=x+y by omega) HN.o;by_cases hre:r%2=0
     ·have I:p%2≠0:=za;have E1:=zb (gK r A3 n3 c3 wr hr.o za hre);have HH:=zb (gR r A3 n3 c3 wr hr.o za);have v:=zb ((VJ hre I).trans F.o);have U:r / 2≠0:=za;have V:r / 2<=q:=za;have X:r / 2<r:=za;have H:p%2≠0\/r / 2%2≠0:=.inl I;clear hre F u I;go_wp2_with (first|(go_at_call 151;(with_reducible refine E1.o.mono ?_);rintro e w' ⟨rfl,rfl⟩));refine HH.o.mono ?_;intro e w1 i;obtain⟨A9,n9,c9,rfl,j,hb⟩:=i.elim;clear i;have hp:=zb (hp.o.below hb);have hB:=zc hB hb;have j:=zb j;clear hb hr E1 HH;go_wp2;go_roundg r
      case measure=>omega
      case rel=>exact⟨r / 2,A9,n9,c9,rfl,X,U,V,H,v,hp,j,hB⟩
     ·have E1:=zb (gQ r A3 n3 c3 wr hr.o za hre);clear u;go_wp2_with (first|(go_at_call 151;(with_reducible refine E1.o.mono ?_);rintro e w' ⟨rfl,rfl⟩));clear E1
      go_loopg [0,1] (p+r+1) (λg s0 s1 wr=>∃(a b:Nat) (A5:ze) (n5 c5:Nat) (A6:ze) (n6 c6:Nat),s0=.slice A5 n5 c5/\s1=.slice A6 n6 c6/\a+b<g/\b%2≠0/\a<=x+y/\b<=x+y/\zd (Nat.gcd a b=Nat.gcd p q)/\zd (zE wr a A5 n5 c5)/\zd (zE wr b A6 n6 c6)/\Below w.heap.size w wr)
      case atStart=>exact⟨p,r,A1,n1,c1,A3,n3,c3,rfl,rfl,za,hre,za,za,F,hp,hr,hB⟩
      case round=>
       clear hp hr hB F;obtain⟨a,b,A5,n5,c5,A6,n6,c6,rfl,rfl,ag,K,af,P,s,ha,o,hB⟩:=hrel;by_cases ha0:a=0
       ·have Z:n5=0:=by rw [ha.o.len,ha0];rfl
        have ab:=nu o.o (show b<=x+y by omega) HN.o;have HS:=Xr b t A6 n6 c6 wr o.o za za;have e:b*2^t=Nat.gcd x y:=by
         have h1:=s.o;rw [ha0,XI] at h1;rw [J.o,L.o,Nat.gcd_mul_left,<-h1,qB]
        rw [e] at HS;have O:=zb HS;subst Z;clear HS e s ha o ha0;go_wp2_with fail;refine O.o.mono ?_;intro e w1 i;have G:=zb (i.from_ hB);obtain⟨A9,n9,c9,rfl,_,_⟩:=i.elim;clear i;go_wp2;go_ret;exact G.o
       ·have aa:=dZ ha.o ha0;have z5:decide ((0:Int)<(n5:Int))=true:=by simpa using aa
        go_wp2_with fail;obtain⟨wo,Y⟩:∃wo,wo=wr:=⟨_,rfl⟩;subst Y
        go_loopg [0] (a+1) (λg s0 wr=>∃(k:Nat) (A7:ze) (n7 c7:Nat),s0=.slice A7 n7 c7/\k<g/\k≠0/\k<=a/\zd (Nat.gcd k b=Nat.gcd p q)/\zd (zE wr k A7 n7 c7)/\zd (zE wr b A6 n6 c6)/\Below w.heap.size w wr)
        case atStart=>exact⟨a,A5,n5,c5,rfl,za,ha0,qX _,s,ha,o,hB⟩
        case round=>
         clear ha o hB s;obtain⟨k,A7,n7,c7,rfl,al,aj,ak,s,hk,o,hB⟩:=hrel;have ar:=nu hk.o (show k<=x+y by omega) HN.o;have ab:=nu o.o (show b<=x+y by omega) HN.o;by_cases hke:k%2=0
         ·have E1:=zb (gK k A7 n7 c7 wr hk.o za hke);have HH:=zb (gR k A7 n7 c7 wr hk.o za);have v:=zb ((gM hke K).trans s.o);have Q:k / 2≠0:=za;have R:k / 2<=a:=za;have S:k / 2<k:=za;clear hke s;go_wp2_with (first|(go_at_call 151;(with_reducible refine E1.o.mono ?_);rintro e w' ⟨rfl,rfl⟩));refine HH.o.mono ?_;intro e w1 i;obtain⟨A9,n9,c9,rfl,j,hb⟩:=i.elim;clear i;have o:=zb (o.o.below hb);have hB:=zc hB hb;have j:=zb j;clear hb hk E1 HH;go_wp2;go_roundg k
          case measure=>omega
          case rel=>exact⟨k / 2,A9,n9,c9,rfl,S,Q,R,v,j,o,hB⟩
         ·have E1:=zb (gQ k A7 n7 c7 wr hk.o za hke);have HC:=zb (cM k b A7 A6 n7 n6 c7 c6 wr hk.o o.o za za);go_wp2_with (first|(go_at_call 151;(with_reducible refine E1.o.mono ?_);rintro e w' ⟨rfl,rfl⟩));refine HC.o.mono ?_;rintro e w' ⟨rfl,qd,rfl⟩;have C:zd (zE (wr.drewN qd) k A7 n7 c7):=hk;have B:zd (zE (wr.drewN qd) b A6 n6 c6):=o;have z:=uY hB qd;clear hk o hB E1 HC;by_cases hlt:k<b
          ·have HS:=zb (ki b k (QK hlt) A6 A7 n6 n7 c6 c7 _ B.o C.o za za);have v:=zb ((cS (QK hlt)).trans ((XN b k).trans s.o));rw [sh hlt];have m1:b - k+k<a+b:=za;have m2:b - k<=x+y:=za;have m3:k<=x+y:=za;clear s;go_wp2_with fail;refine HS.o.mono ?_;intro e w1 i;obtain⟨A9,n9,c9,rfl,j,hb⟩:=i.elim;have C:=zb (C.o.below hb);have z:=zc z hb;have j:=zb j;clear hb i HS B;go_wp2;go_roundg (a+b)
           case measure=>omega
           case rel=>exact⟨b - k,k,A9,n9,c9,A7,n7,c7,rfl,rfl,m1,hke,m2,m3,v,j,C,z⟩
          ·have M:b<=k:=za;have HS:=zb (ki k b M A7 A6 n7 n6 c7 c6 _ C.o B.o za za);have v:=zb ((cS M).trans s.o);have E:yg k b=0\/yg k b=1:=by
            rcases xW b k with h|h
            ·exact .inr (s4 h)
            ·exact .inl (ku za)
           have m1:k - b+b<a+b:=za;have m2:k - b<=x+y:=za;clear s;rcases E with E|E
           all_goals
            rw [E]
            clear E
            go_wp2_with fail
            refine HS.o.mono ?_
            intro e w1 i
            obtain⟨A9,n9,c9,rfl,j,hb⟩:=i.elim
            have B:=zb (B.o.below hb)
            have z:=zc z hb
            have j:=zb j
            clear hb i HS C
            go_wp2
            go_roundg (a+b)
            case measure=>omega
            case rel=>exact⟨k - b,b,A9,n9,c9,A6,n6,c6,rfl,rfl,m1,K,m2,P,v,j,B,z⟩
  ·have E1:=zb (gQ p A1 n1 c1 wr hp.o za hpe);have u:p%2≠0\/q%2≠0:=.inl hpe;clear hpe;go_wp2_with (first|(go_at_call 151;(with_reducible refine E1.o.mono ?_);rintro e w' ⟨rfl,rfl⟩));clear E1
   go_loopg [1] (q+1) (λg s1 wr=>∃(r:Nat) (A3:ze) (n3 c3:Nat),s1=.slice A3 n3 c3/\r<g/\r≠0/\r<=q/\(p%2≠0\/r%2≠0)/\zd (Nat.gcd p r=Nat.gcd p q)/\zd (zE wr p A1 n1 c1)/\zd (zE wr r A3 n3 c3)/\Below w.heap.size w wr)
   case atStart=>exact⟨q,A2,n2,c2,rfl,za,ae,qX _,u,rfl,hp,hq,hB⟩
   case round=>
    clear hp hq hB u;obtain⟨r,A3,n3,c3,rfl,ao,an,ap,u,F,hp,hr,hB⟩:=hrel;have aq:=nu hr.o (show r<=x+y by omega) HN.o;by_cases hre:r%2=0
    ·have I:p%2≠0:=za;have E1:=zb (gK r A3 n3 c3 wr hr.o za hre);have HH:=zb (gR r A3 n3 c3 wr hr.o za);have v:=zb ((VJ hre I).trans F.o);have U:r / 2≠0:=za;have V:r / 2<=q:=za;have X:r / 2<r:=za;have H:p%2≠0\/r / 2%2≠0:=.inl I;clear hre F u I;go_wp2_with (first|(go_at_call 151;(with_reducible refine E1.o.mono ?_);rintro e w' ⟨rfl,rfl⟩));refine HH.o.mono ?_;intro e w1 i;obtain⟨A9,n9,c9,rfl,j,hb⟩:=i.elim;clear i;have hp:=zb (hp.o.below hb);have hB:=zc hB hb;have j:=zb j;clear hb hr E1 HH;go_wp2;go_roundg r
     case measure=>omega
     case rel=>exact⟨r / 2,A9,n9,c9,rfl,X,U,V,H,v,hp,j,hB⟩
    ·have E1:=zb (gQ r A3 n3 c3 wr hr.o za hre);clear u;go_wp2_with (first|(go_at_call 151;(with_reducible refine E1.o.mono ?_);rintro e w' ⟨rfl,rfl⟩));clear E1
     go_loopg [0,1] (p+r+1) (λg s0 s1 wr=>∃(a b:Nat) (A5:ze) (n5 c5:Nat) (A6:ze) (n6 c6:Nat),s0=.slice A5 n5 c5/\s1=.slice A6 n6 c6/\a+b<g/\b%2≠0/\a<=x+y/\b<=x+y/\zd (Nat.gcd a b=Nat.gcd p q)/\zd (zE wr a A5 n5 c5)/\zd (zE wr b A6 n6 c6)/\Below w.heap.size w wr)
     case atStart=>exact⟨p,r,A1,n1,c1,A3,n3,c3,rfl,rfl,za,hre,za,za,F,hp,hr,hB⟩
     case round=>
      clear hp hr hB F;obtain⟨a,b,A5,n5,c5,A6,n6,c6,rfl,rfl,ag,K,af,P,s,ha,o,hB⟩:=hrel;by_cases ha0:a=0
      ·have Z:n5=0:=by rw [ha.o.len,ha0];rfl
       have ab:=nu o.o (show b<=x+y by omega) HN.o;have HS:=Xr b t A6 n6 c6 wr o.o za za;have e:b*2^t=Nat.gcd x y:=by
        have h1:=s.o;rw [ha0,XI] at h1;rw [J.o,L.o,Nat.gcd_mul_left,<-h1,qB]
       rw [e] at HS;have O:=zb HS;subst Z;clear HS e s ha o ha0;go_wp2_with fail;refine O.o.mono ?_;intro e w1 i;have G:=zb (i.from_ hB);obtain⟨A9,n9,c9,rfl,_,_⟩:=i.elim;clear i;go_wp2;go_ret;exact G.o
      ·have aa:=dZ ha.o ha0;have z5:decide ((0:Int)<(n5:Int))=true:=by simpa using aa
       go_wp2_with fail;obtain⟨wo,Y⟩:∃wo,wo=wr:=⟨_,rfl⟩;subst Y
       go_loopg [0] (a+1) (λg s0 wr=>∃(k:Nat) (A7:ze) (n7 c7:Nat),s0=.slice A7 n7 c7/\k<g/\k≠0/\k<=a/\zd (Nat.gcd k b=Nat.gcd p q)/\zd (zE wr k A7 n7 c7)/\zd (zE wr b A6 n6 c6)/\Below w.heap.size w wr)
       case atStart=>exact⟨a,A5,n5,c5,rfl,za,ha0,qX _,s,ha,o,hB⟩
       case round=>
        clear ha o hB s;obtain⟨k,A7,n7,c7,rfl,al,aj,ak,s,hk,o,hB⟩:=hrel;have ar:=nu hk.o (show k<=x+y by omega) HN.o;have ab:=nu o.o (show b<=x+y by omega) HN.o;by_cases hke:k%2=0
        ·have E1:=zb (gK k A7 n7 c7 wr hk.o za hke);have HH:=zb (gR k A7 n7 c7 wr hk.o za);have v:=zb ((gM hke K).trans s.o);have Q:k / 2≠0:=za;have R:k / 2<=a:=za;have S:k / 2<k:=za;clear hke s;go_wp2_with (first|(go_at_call 151;(with_reducible refine E1.o.mono ?_);rintro e w' ⟨rfl,rfl⟩));refine HH.o.mono ?_;intro e w1 i;obtain⟨A9,n9,c9,rfl,j,hb⟩:=i.elim;clear i;have o:=zb (o.o.below hb);have hB:=zc hB hb;have j:=zb j;clear hb hk E1 HH;go_wp2;go_roundg k
         case measure=>omega
         case rel=>exact⟨k / 2,A9,n9,c9,rfl,S,Q,R,v,j,o,hB⟩
        ·have E1:=zb (gQ k A7 n7 c7 wr hk.o za hke);have HC:=zb (cM k b A7 A6 n7 n6 c7 c6 wr hk.o o.o za za);go_wp2_with (first|(go_at_call 151;(with_reducible refine E1.o.mono ?_);rintro e w' ⟨rfl,rfl⟩));refine HC.o.mono ?_;rintro e w' ⟨rfl,qd,rfl⟩;have C:zd (zE (wr.drewN qd) k A7 n7 c7):=hk;have B:zd (zE (wr.drewN qd) b A6 n6 c6):=o;have z:=uY hB qd;clear hk o hB E1 HC;by_cases hlt:k<b
         ·have HS:=zb (ki b k (QK hlt) A6 A7 n6 n7 c6 c7 _ B.o C.o za za);have v:=zb ((cS (QK hlt)).trans ((XN b k).trans s.o));rw [sh hlt];have m1:b - k+k<a+b:=za;have m2:b - k<=x+y:=za;have m3:k<=x+y:=za;clear s;go_wp2_with fail;refine HS.o.mono ?_;intro e w1 i;obtain⟨A9,n9,c9,rfl,j,hb⟩:=i.elim;have C:=zb (C.o.below hb);have z:=zc z hb;have j:=zb j;clear hb i HS B;go_wp2;go_roundg (a+b)
          case measure=>omega
          case rel=>exact⟨b - k,k,A9,n9,c9,A7,n7,c7,rfl,rfl,m1,hke,m2,m3,v,j,C,z⟩
         ·have M:b<=k:=za;have HS:=zb (ki k b M A7 A6 n7 n6 c7 c6 _ C.o B.o za za);have v:=zb ((cS M).trans s.o);have E:yg k b=0\/yg k b=1:=by
           rcases xW b k with h|h
           ·exact .inr (s4 h)
           ·exact .inl (ku za)
          have m1:k - b+b<a+b:=za;have m2:k - b<=x+y:=za;clear s;rcases E with E|E
          all_goals
           rw [E]
           clear E
           go_wp2_with fail
           refine HS.o.mono ?_
           intro e w1 i
           obtain⟨A9,n9,c9,rfl,j,hb⟩:=i.elim
           have B:=zb (B.o.below hb)
           have z:=zc z hb
           have j:=zb j
           clear hb i HS C
           go_wp2
           go_roundg (a+b)
           case measure=>omega
           case rel=>exact⟨k - b,b,A9,n9,c9,A6,n6,c6,rfl,rfl,m1,K,m2,P,v,j,B,z⟩
