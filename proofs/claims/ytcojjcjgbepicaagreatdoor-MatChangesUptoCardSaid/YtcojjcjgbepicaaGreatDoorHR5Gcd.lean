/- What this claim leans on. -/
import Derived.Test.YtcojjcjgbepicaaGreatDoorHBunP
namespace Go.Proofs.YtcojjcjgbepicaaGreatDoor
open Go Go.RowKit Go.Proofs.Tryz
set_option maxHeartbeats 16000000
set_option maxRecDepth 100000
set_option linter.unusedVariables false
theorem ziL (x:Nat):((dg 65536 x).getD 0 0:Nat)%2=x%2:=by
 rw [zgk,Nat.pow_zero,Nat.div_one];omega
theorem zcw (x:Nat)(A:oA9)(n c:Nat)(w:World)(hA:zal w x A n c)(hn:n<=1099511627776)(h:x%2=0):
  Calls prog 202 #[.slice A n c] w λe w'=>e=.returned (.bool true)/\w=w':=by
 have hd:=zdd A n c 0 _ _ w hA.1 hn;have he:=ziL x;rw [h] at he;obtain⟨k,hk⟩:∃k,(dg 65536 x).getD 0 0=k:=⟨_,rfl⟩;rw [hk] at hd he;have hd:Calls prog 187 #[.slice A n c,.int .i64 0] w λe w'=>e=.returned (.int .i64 (k:Int))/\w=w':=hd;have HD:=lh9 hd;have h1:(k:Int)%2=0:=om9;have h2:(k:Int).tmod 2=0:=by rw [Int.tmod_eq_emod_of_nonneg om9];exact h1
 clear hd hk hA he;go_enter func202,ntmps202;go_wp2_with (go_at_call 187;(with_reducible refine HD.out.mono ?_);rintro e w' ⟨rfl,rfl⟩);go_ret;exact⟨rfl,rfl⟩
theorem zcN (x:Nat)(A:oA9)(n c:Nat)(w:World)(hA:zal w x A n c)(hn:n<=1099511627776)(h:x%2≠0):
  Calls prog 202 #[.slice A n c] w λe w'=>e=.returned (.bool false)/\w=w':=by
 have hd:=zdd A n c 0 _ _ w hA.1 hn;have he:=ziL x;obtain⟨k,hk⟩:∃k,(dg 65536 x).getD 0 0=k:=⟨_,rfl⟩;rw [hk] at hd he;have hd:Calls prog 187 #[.slice A n c,.int .i64 0] w λe w'=>e=.returned (.int .i64 (k:Int))/\w=w':=hd;have HD:=lh9 hd;have h1:(k:Int)%2=1:=om9;have h2:(k:Int).tmod 2=1:=by rw [Int.tmod_eq_emod_of_nonneg om9];exact h1
 clear hd hk hA he h;go_enter func202,ntmps202;go_wp2_with (go_at_call 187;(with_reducible refine HD.out.mono ?_);rintro e w' ⟨rfl,rfl⟩);go_ret;exact⟨rfl,rfl⟩
theorem zdg (x:Nat)(A:oA9)(n c:Nat)(w:World)(hA:zal w x A n c)(hn:n<=274877906944):
  Calls prog 203 #[.slice A n c] w (zbA w (x / 2)):=by
 have hh:Calls prog 216 #[.slice A n c,.int .i64 2] w (zjX w x 2):=zqX x 2 A n c w hA hn de9 de9;have HH:=lh9 hh;clear hh hA;go_enter func203,ntmps203;go_wp2_with fail;refine HH.out.mono ?_;rintro e w1 ⟨v,rfl,hg⟩;have G:=lh9 hg;obtain⟨A1,n1,c1,he,_,_⟩:=hg.elim;injection he with he;subst he;go_wp2;go_ret;exact G.out
theorem cop2 {q:Nat}(h:q%2≠0):Nat.gcd 2 q=1:=by
 have h1:Nat.gcd 2 q ∣ 2:=Nat.gcd_dvd_left 2 q;have h2:=Nat.le_of_dvd de9 h1;have h3:Nat.gcd 2 q≠0:=λe=>by rw [e] at h1;exact absurd (Nat.eq_zero_of_zero_dvd h1) de9
 have h4:Nat.gcd 2 q≠2:=λe=>h (Nat.mod_eq_zero_of_dvd (by rw [<-e];exact Nat.gcd_dvd_right 2 q));omega
theorem zdu {p q:Nat}(hp:p%2=0)(hq:q%2≠0):Nat.gcd (p / 2) q=Nat.gcd p q:=by
 have e:p=2*(p / 2):=om9;have h:Nat.Coprime 2 q:=cop2 hq;rw [show Nat.gcd p q=Nat.gcd (2*(p / 2)) q from by rw [<-e]];exact(h.gcd_mul_left_cancel (p / 2)).symm
theorem ziQ {p q:Nat}(hq:q%2=0)(hp:p%2≠0):Nat.gcd p (q / 2)=Nat.gcd p q:=by rw [Nat.gcd_comm,zdu hq hp,Nat.gcd_comm]
theorem zfz {p q:Nat}(h:q<=p):Nat.gcd (p - q) q=Nat.gcd p q:=by
 obtain⟨s,rfl⟩:∃s,p=q+s:=⟨p - q,om9⟩;rw [Nat.add_sub_cancel_left,Nat.gcd_self_add_left]
theorem zcv {w:World}{x M N:Nat}{A:oA9}{n c:Nat}(h:zal w x A n c)(hx:x<=M)(hM:(dg 65536 M).length<=N):n<=N:=by
 rw [h.len];exact Nat.le_trans (zbr de9 hx) hM
theorem zeJ {w:World}{x:Nat}{A:oA9}{n c:Nat}(h:zal w x A n c)(hx:x≠0):0<n:=by
 have h1:=zbh (b:=65536) de9 x;rw [<-h.len] at h1;rcases Nat.eq_zero_or_pos n with h0|h0
 ·rw [h0] at h1;exact absurd (by simpa using h1) hx
 ·exact h0
theorem sum_len {x y n m K:Nat}(hx:(dg 65536 x).length=n)(hy:(dg 65536 y).length=m)(hn:n<=K)(hm:m<=K):(dg 65536 (x+y)).length<=K+1:=by
 have h1:=zbh (b:=65536) de9 x;have h2:=zbh (b:=65536) de9 y;rw [hx] at h1;rw [hy] at h2;have h3:65536^n<=65536^K:=Nat.pow_le_pow_right de9 hn;have h4:65536^m<=65536^K:=Nat.pow_le_pow_right de9 hm;refine zbB de9 _ _ ?_;rw [Nat.pow_succ];omega
theorem ref5_gcd (x y:Nat)(A D:oA9)(n m c d:Nat)(w:World)(hA:zal w x A n c)(hD:zal w y D m d)(hn:n<=1073741824)(hm:m<=1073741824)(hx:x≠0)(hy:y≠0):
  Calls prog 180 #[.slice A n c,.slice D m d] w (zbA w (Nat.gcd x y)):=by
 have hn0:=zeJ hA hx;have hm0:=zeJ hD hy;obtain⟨N,hN⟩:∃N,(dg 65536 (x+y)).length=N:=⟨_,rfl⟩;have hN1:N<=1073741824+1:=by rw [<-hN];exact sum_len hA.len.symm hD.len.symm hn hm
 have HN:=lh9 (Nat.le_of_eq hN);have ab:∀t p,x=2^t*p->p≠0->t<=17179869184:=λt p e hp=>by
  have h1:=zbh (b:=65536) de9 x;rw [<-hA.len,show(65536:Nat)=2^16 from rfl,<-Nat.pow_mul] at h1;have h2:2^t<=x:=by rw [e];exact Nat.le_mul_of_pos_right _ (Nat.pos_of_ne_zero hp)
  have h3:=(Nat.pow_lt_pow_iff_right (a:=2) de9).1 (Nat.lt_of_le_of_lt h2 h1);omega
 have HT:=lh9 ab;have z1:((n:Int)==0)=false:=by simp;omega
 have z2:((m:Int)==0)=false:=by simp;omega
 have HA:=lh9 hA;have HD:=lh9 hD;have HX:=lh9 hx;have HY:=lh9 hy;have hB:=Below.refl w.heap.size w;clear hN ab hA hD hx hy;go_enter func180,ntmps180;go_wp2_with fail
 go_loopg [0,1,5] (x+1) (λg s0 s1 s5 wr=>∃(p q t:Nat) (A1:oA9) (n1 c1:Nat) (A2:oA9) (n2 c2:Nat),s0=.slice A1 n1 c1/\s1=.slice A2 n2 c2/\s5=.int .i64 (t:Int)/\p<g/\p≠0/\q≠0/\Hid (x=2^t*p)/\Hid (y=2^t*q)/\Hid (zal wr p A1 n1 c1)/\Hid (zal wr q A2 n2 c2)/\Below w.heap.size w wr)
 case atStart=>exact⟨x,y,0,A,n,c,D,m,d,rfl,rfl,rfl,om9,HX.out,HY.out,by show _=_;simp,by show _=_;simp,HA,HD,hB⟩
 case round=>
  clear hB HA HD;obtain⟨p,q,t,A1,n1,c1,A2,n2,c2,rfl,rfl,rfl,hg,ak,ac,H,J,hp,hq,hB⟩:=hrel;have hpx:p<=x:=by rw [H.out];exact Nat.le_mul_of_pos_left _ (Nat.two_pow_pos t)
  have hqy:q<=y:=by rw [J.out];exact Nat.le_mul_of_pos_left _ (Nat.two_pow_pos t)
  have htb:=HT.out t p H.out ak;have n1l:=zcv hp.out (show p<=x+y by omega) HN.out;have n2l:=zcv hq.out (show q<=x+y by omega) HN.out;by_cases hpe:p%2=0
  ·have E1:=lh9 (zcw p A1 n1 c1 wr hp.out om9 hpe);by_cases hqe:q%2=0
   ·have E2:=lh9 (zcw q A2 n2 c2 wr hq.out om9 hqe);have HH:=lh9 (zdg p A1 n1 c1 wr hp.out om9);have af:=lh9 (show x=2^(t+1)*(p / 2) by rw [Nat.pow_succ,Nat.mul_assoc,show 2*(p / 2)=p by omega];exact H.out);have ag:=lh9 (show y=2^(t+1)*(q / 2) by rw [Nat.pow_succ,Nat.mul_assoc,show 2*(q / 2)=q by omega];exact J.out);have m1:p / 2≠0/\q / 2≠0/\p / 2<p:=om9;obtain⟨m1,m2,m3⟩:=m1;clear hpe hqe H J;go_wp2_with (first|(go_at_call 202;(with_reducible refine E1.out.mono ?_);rintro e w' ⟨rfl,rfl⟩)|(go_at_call 202;(with_reducible refine E2.out.mono ?_);rintro e w' ⟨rfl,rfl⟩));refine HH.out.mono ?_;intro e w1 f;obtain⟨A9,n9,c9,rfl,i,hb⟩:=f.elim;clear f;have hq:=lh9 (hq.out.below hb);have hB:=zac hB hb;have i:=lh9 i;have aa:=lh9 (zdg q A2 n2 c2 w1 hq.out om9);clear hb hp E1 E2 HH;go_wp2_with fail;refine aa.out.mono ?_;intro e w2 f;obtain⟨A8,n8,c8,rfl,R,hb⟩:=f.elim;have i:=lh9 (i.out.below hb);have hB:=zac hB hb;have R:=lh9 R;clear hb hq aa f;go_wp2;go_roundg p
    case measure=>omega
    case rel=>exact⟨p / 2,q / 2,t+1,A9,n9,c9,A8,n8,c8,rfl,rfl,by go_num,m3,m1,m2,af,ag,i,R,hB⟩
   ·have E2:=lh9 (zcN q A2 n2 c2 wr hq.out om9 hqe);have o:p%2≠0\/q%2≠0:=.inr hqe;clear hpe;go_wp2_with (first|(go_at_call 202;(with_reducible refine E1.out.mono ?_);rintro e w' ⟨rfl,rfl⟩)|(go_at_call 202;(with_reducible refine E2.out.mono ?_);rintro e w' ⟨rfl,rfl⟩));clear E1 E2 hqe
    go_loopg [1] (q+1) (λg s1 wr=>∃(r:Nat) (A3:oA9) (n3 c3:Nat),s1=.slice A3 n3 c3/\r<g/\r≠0/\r<=q/\(p%2≠0\/r%2≠0)/\Hid (Nat.gcd p r=Nat.gcd p q)/\Hid (zal wr p A1 n1 c1)/\Hid (zal wr r A3 n3 c3)/\Below w.heap.size w wr)
    case atStart=>exact⟨q,A2,n2,c2,rfl,om9,ac,Nat.le_refl _,o,rfl,hp,hq,hB⟩
    case round=>
     clear hp hq hB o;obtain⟨r,A3,n3,c3,rfl,am,al,an,o,C,hp,hr,hB⟩:=hrel;have ao:=zcv hr.out (show r<=x+y by omega) HN.out;by_cases hre:r%2=0
     ·have F:p%2≠0:=om9;have E1:=lh9 (zcw r A3 n3 c3 wr hr.out om9 hre);have HH:=lh9 (zdg r A3 n3 c3 wr hr.out om9);have s:=lh9 ((ziQ hre F).trans C.out);have S:r / 2≠0:=om9;have T:r / 2<=q:=om9;have U:r / 2<r:=om9;have E:p%2≠0\/r / 2%2≠0:=.inl F;clear hre C o F;go_wp2_with (first|(go_at_call 202;(with_reducible refine E1.out.mono ?_);rintro e w' ⟨rfl,rfl⟩));refine HH.out.mono ?_;intro e w1 f;obtain⟨A9,n9,c9,rfl,i,hb⟩:=f.elim;clear f;have hp:=lh9 (hp.out.below hb);have hB:=zac hB hb;have i:=lh9 i;clear hb hr E1 HH;go_wp2;go_roundg r
      case measure=>omega
      case rel=>exact⟨r / 2,A9,n9,c9,rfl,U,S,T,E,s,hp,i,hB⟩
     ·have E1:=lh9 (zcN r A3 n3 c3 wr hr.out om9 hre);clear o;go_wp2_with (first|(go_at_call 202;(with_reducible refine E1.out.mono ?_);rintro e w' ⟨rfl,rfl⟩));clear E1
      go_loopg [0,1] (p+r+1) (λg s0 s1 wr=>∃(a b:Nat) (A5:oA9) (n5 c5:Nat) (A6:oA9) (n6 c6:Nat),s0=.slice A5 n5 c5/\s1=.slice A6 n6 c6/\a+b<g/\b%2≠0/\a<=x+y/\b<=x+y/\Hid (Nat.gcd a b=Nat.gcd p q)/\Hid (zal wr a A5 n5 c5)/\Hid (zal wr b A6 n6 c6)/\Below w.heap.size w wr)
      case atStart=>exact⟨p,r,A1,n1,c1,A3,n3,c3,rfl,rfl,om9,hre,om9,om9,C,hp,hr,hB⟩
      case round=>
       clear hp hr hB C;obtain⟨a,b,A5,n5,c5,A6,n6,c6,rfl,rfl,ae,I,ad,M,l,ha,j,hB⟩:=hrel;by_cases ha0:a=0
       ·have X:n5=0:=by rw [ha.out.len,ha0];rfl
        have Z:=zcv j.out (show b<=x+y by omega) HN.out;have HS:=znr b t A6 n6 c6 wr j.out om9 om9;have e:b*2^t=Nat.gcd x y:=by
         have h1:=l.out;rw [ha0,Nat.gcd_zero_left] at h1;rw [H.out,J.out,Nat.gcd_mul_left,<-h1,Nat.mul_comm]
        rw [e] at HS;have L:=lh9 HS;subst X;clear HS e l ha j ha0;go_wp2_with fail;refine L.out.mono ?_;intro e w1 f;have G:=lh9 (f.from_ hB);obtain⟨A9,n9,c9,rfl,_,_⟩:=f.elim;clear f;go_wp2;go_ret;exact G.out
       ·have Y:=zeJ ha.out ha0;have z5:decide ((0:Int)<(n5:Int))=true:=by simpa using Y
        go_wp2_with fail;obtain⟨wo,V⟩:∃wo,wo=wr:=⟨_,rfl⟩;subst V
        go_loopg [0] (a+1) (λg s0 wr=>∃(k:Nat) (A7:oA9) (n7 c7:Nat),s0=.slice A7 n7 c7/\k<g/\k≠0/\k<=a/\Hid (Nat.gcd k b=Nat.gcd p q)/\Hid (zal wr k A7 n7 c7)/\Hid (zal wr b A6 n6 c6)/\Below w.heap.size w wr)
        case atStart=>exact⟨a,A5,n5,c5,rfl,om9,ha0,Nat.le_refl _,l,ha,j,hB⟩
        case round=>
         clear ha j hB l;obtain⟨k,A7,n7,c7,rfl,aj,ah,ai,l,hk,j,hB⟩:=hrel;have ap:=zcv hk.out (show k<=x+y by omega) HN.out;have Z:=zcv j.out (show b<=x+y by omega) HN.out;by_cases hke:k%2=0
         ·have E1:=lh9 (zcw k A7 n7 c7 wr hk.out om9 hke);have HH:=lh9 (zdg k A7 n7 c7 wr hk.out om9);have s:=lh9 ((zdu hke I).trans l.out);have O:k / 2≠0:=om9;have P:k / 2<=a:=om9;have Q:k / 2<k:=om9;clear hke l;go_wp2_with (first|(go_at_call 202;(with_reducible refine E1.out.mono ?_);rintro e w' ⟨rfl,rfl⟩));refine HH.out.mono ?_;intro e w1 f;obtain⟨A9,n9,c9,rfl,i,hb⟩:=f.elim;clear f;have j:=lh9 (j.out.below hb);have hB:=zac hB hb;have i:=lh9 i;clear hb hk E1 HH;go_wp2;go_roundg k
          case measure=>omega
          case rel=>exact⟨k / 2,A9,n9,c9,rfl,Q,O,P,s,i,j,hB⟩
         ·have E1:=lh9 (zcN k A7 n7 c7 wr hk.out om9 hke);have HC:=lh9 (zho k b A7 A6 n7 n6 c7 c6 wr hk.out j.out om9 om9);go_wp2_with (first|(go_at_call 202;(with_reducible refine E1.out.mono ?_);rintro e w' ⟨rfl,rfl⟩));refine HC.out.mono ?_;rintro e w' ⟨rfl,qd,rfl⟩;have z:Hid (zal (wr.drewN qd) k A7 n7 c7):=hk;have v:Hid (zal (wr.drewN qd) b A6 n6 c6):=j;have u:=zbl hB qd;clear hk j hB E1 HC;by_cases hlt:k<b
          ·have HS:=lh9 (zfL b k (Nat.le_of_lt hlt) A6 A7 n6 n7 c6 c7 _ v.out z.out om9 om9);have s:=lh9 ((zfz (Nat.le_of_lt hlt)).trans ((Nat.gcd_comm b k).trans l.out));rw [zcZ hlt];have m1:b - k+k<a+b:=om9;have m2:b - k<=x+y:=om9;have m3:k<=x+y:=om9;clear l;go_wp2_with fail;refine HS.out.mono ?_;intro e w1 f;obtain⟨A9,n9,c9,rfl,i,hb⟩:=f.elim;have z:=lh9 (z.out.below hb);have u:=zac u hb;have i:=lh9 i;clear hb f HS v;go_wp2;go_roundg (a+b)
           case measure=>omega
           case rel=>exact⟨b - k,k,A9,n9,c9,A7,n7,c7,rfl,rfl,m1,hke,m2,m3,s,i,z,u⟩
          ·have K:b<=k:=om9;have HS:=lh9 (zfL k b K A7 A6 n7 n6 c7 c6 _ z.out v.out om9 om9);have s:=lh9 ((zfz K).trans l.out);have B:zby k b=0\/zby k b=1:=by
            rcases Nat.lt_or_ge b k with h|h
            ·exact .inr (zcY h)
            ·exact .inl (zdV om9)
           have m1:k - b+b<a+b:=om9;have m2:k - b<=x+y:=om9;clear l;rcases B with B|B
           all_goals
            rw [B]
            clear B
            go_wp2_with fail
            refine HS.out.mono ?_
            intro e w1 f
            obtain⟨A9,n9,c9,rfl,i,hb⟩:=f.elim
            have v:=lh9 (v.out.below hb)
            have u:=zac u hb
            have i:=lh9 i
            clear hb f HS z
            go_wp2
            go_roundg (a+b)
            case measure=>omega
            case rel=>exact⟨k - b,b,A9,n9,c9,A6,n6,c6,rfl,rfl,m1,I,m2,M,s,i,v,u⟩
  ·have E1:=lh9 (zcN p A1 n1 c1 wr hp.out om9 hpe);have o:p%2≠0\/q%2≠0:=.inl hpe;clear hpe;go_wp2_with (first|(go_at_call 202;(with_reducible refine E1.out.mono ?_);rintro e w' ⟨rfl,rfl⟩));clear E1
   go_loopg [1] (q+1) (λg s1 wr=>∃(r:Nat) (A3:oA9) (n3 c3:Nat),s1=.slice A3 n3 c3/\r<g/\r≠0/\r<=q/\(p%2≠0\/r%2≠0)/\Hid (Nat.gcd p r=Nat.gcd p q)/\Hid (zal wr p A1 n1 c1)/\Hid (zal wr r A3 n3 c3)/\Below w.heap.size w wr)
   case atStart=>exact⟨q,A2,n2,c2,rfl,om9,ac,Nat.le_refl _,o,rfl,hp,hq,hB⟩
   case round=>
    clear hp hq hB o;obtain⟨r,A3,n3,c3,rfl,am,al,an,o,C,hp,hr,hB⟩:=hrel;have ao:=zcv hr.out (show r<=x+y by omega) HN.out;by_cases hre:r%2=0
    ·have F:p%2≠0:=om9;have E1:=lh9 (zcw r A3 n3 c3 wr hr.out om9 hre);have HH:=lh9 (zdg r A3 n3 c3 wr hr.out om9);have s:=lh9 ((ziQ hre F).trans C.out);have S:r / 2≠0:=om9;have T:r / 2<=q:=om9;have U:r / 2<r:=om9;have E:p%2≠0\/r / 2%2≠0:=.inl F;clear hre C o F;go_wp2_with (first|(go_at_call 202;(with_reducible refine E1.out.mono ?_);rintro e w' ⟨rfl,rfl⟩));refine HH.out.mono ?_;intro e w1 f;obtain⟨A9,n9,c9,rfl,i,hb⟩:=f.elim;clear f;have hp:=lh9 (hp.out.below hb);have hB:=zac hB hb;have i:=lh9 i;clear hb hr E1 HH;go_wp2;go_roundg r
     case measure=>omega
     case rel=>exact⟨r / 2,A9,n9,c9,rfl,U,S,T,E,s,hp,i,hB⟩
    ·have E1:=lh9 (zcN r A3 n3 c3 wr hr.out om9 hre);clear o;go_wp2_with (first|(go_at_call 202;(with_reducible refine E1.out.mono ?_);rintro e w' ⟨rfl,rfl⟩));clear E1
     go_loopg [0,1] (p+r+1) (λg s0 s1 wr=>∃(a b:Nat) (A5:oA9) (n5 c5:Nat) (A6:oA9) (n6 c6:Nat),s0=.slice A5 n5 c5/\s1=.slice A6 n6 c6/\a+b<g/\b%2≠0/\a<=x+y/\b<=x+y/\Hid (Nat.gcd a b=Nat.gcd p q)/\Hid (zal wr a A5 n5 c5)/\Hid (zal wr b A6 n6 c6)/\Below w.heap.size w wr)
     case atStart=>exact⟨p,r,A1,n1,c1,A3,n3,c3,rfl,rfl,om9,hre,om9,om9,C,hp,hr,hB⟩
     case round=>
      clear hp hr hB C;obtain⟨a,b,A5,n5,c5,A6,n6,c6,rfl,rfl,ae,I,ad,M,l,ha,j,hB⟩:=hrel;by_cases ha0:a=0
      ·have X:n5=0:=by rw [ha.out.len,ha0];rfl
       have Z:=zcv j.out (show b<=x+y by omega) HN.out;have HS:=znr b t A6 n6 c6 wr j.out om9 om9;have e:b*2^t=Nat.gcd x y:=by
        have h1:=l.out;rw [ha0,Nat.gcd_zero_left] at h1;rw [H.out,J.out,Nat.gcd_mul_left,<-h1,Nat.mul_comm]
       rw [e] at HS;have L:=lh9 HS;subst X;clear HS e l ha j ha0;go_wp2_with fail;refine L.out.mono ?_;intro e w1 f;have G:=lh9 (f.from_ hB);obtain⟨A9,n9,c9,rfl,_,_⟩:=f.elim;clear f;go_wp2;go_ret;exact G.out
      ·have Y:=zeJ ha.out ha0;have z5:decide ((0:Int)<(n5:Int))=true:=by simpa using Y
       go_wp2_with fail;obtain⟨wo,V⟩:∃wo,wo=wr:=⟨_,rfl⟩;subst V
       go_loopg [0] (a+1) (λg s0 wr=>∃(k:Nat) (A7:oA9) (n7 c7:Nat),s0=.slice A7 n7 c7/\k<g/\k≠0/\k<=a/\Hid (Nat.gcd k b=Nat.gcd p q)/\Hid (zal wr k A7 n7 c7)/\Hid (zal wr b A6 n6 c6)/\Below w.heap.size w wr)
       case atStart=>exact⟨a,A5,n5,c5,rfl,om9,ha0,Nat.le_refl _,l,ha,j,hB⟩
       case round=>
        clear ha j hB l;obtain⟨k,A7,n7,c7,rfl,aj,ah,ai,l,hk,j,hB⟩:=hrel;have ap:=zcv hk.out (show k<=x+y by omega) HN.out;have Z:=zcv j.out (show b<=x+y by omega) HN.out;by_cases hke:k%2=0
        ·have E1:=lh9 (zcw k A7 n7 c7 wr hk.out om9 hke);have HH:=lh9 (zdg k A7 n7 c7 wr hk.out om9);have s:=lh9 ((zdu hke I).trans l.out);have O:k / 2≠0:=om9;have P:k / 2<=a:=om9;have Q:k / 2<k:=om9;clear hke l;go_wp2_with (first|(go_at_call 202;(with_reducible refine E1.out.mono ?_);rintro e w' ⟨rfl,rfl⟩));refine HH.out.mono ?_;intro e w1 f;obtain⟨A9,n9,c9,rfl,i,hb⟩:=f.elim;clear f;have j:=lh9 (j.out.below hb);have hB:=zac hB hb;have i:=lh9 i;clear hb hk E1 HH;go_wp2;go_roundg k
         case measure=>omega
         case rel=>exact⟨k / 2,A9,n9,c9,rfl,Q,O,P,s,i,j,hB⟩
        ·have E1:=lh9 (zcN k A7 n7 c7 wr hk.out om9 hke);have HC:=lh9 (zho k b A7 A6 n7 n6 c7 c6 wr hk.out j.out om9 om9);go_wp2_with (first|(go_at_call 202;(with_reducible refine E1.out.mono ?_);rintro e w' ⟨rfl,rfl⟩));refine HC.out.mono ?_;rintro e w' ⟨rfl,qd,rfl⟩;have z:Hid (zal (wr.drewN qd) k A7 n7 c7):=hk;have v:Hid (zal (wr.drewN qd) b A6 n6 c6):=j;have u:=zbl hB qd;clear hk j hB E1 HC;by_cases hlt:k<b
         ·have HS:=lh9 (zfL b k (Nat.le_of_lt hlt) A6 A7 n6 n7 c6 c7 _ v.out z.out om9 om9);have s:=lh9 ((zfz (Nat.le_of_lt hlt)).trans ((Nat.gcd_comm b k).trans l.out));rw [zcZ hlt];have m1:b - k+k<a+b:=om9;have m2:b - k<=x+y:=om9;have m3:k<=x+y:=om9;clear l;go_wp2_with fail;refine HS.out.mono ?_;intro e w1 f;obtain⟨A9,n9,c9,rfl,i,hb⟩:=f.elim;have z:=lh9 (z.out.below hb);have u:=zac u hb;have i:=lh9 i;clear hb f HS v;go_wp2;go_roundg (a+b)
          case measure=>omega
          case rel=>exact⟨b - k,k,A9,n9,c9,A7,n7,c7,rfl,rfl,m1,hke,m2,m3,s,i,z,u⟩
         ·have K:b<=k:=om9;have HS:=lh9 (zfL k b K A7 A6 n7 n6 c7 c6 _ z.out v.out om9 om9);have s:=lh9 ((zfz K).trans l.out);have B:zby k b=0\/zby k b=1:=by
           rcases Nat.lt_or_ge b k with h|h
           ·exact .inr (zcY h)
           ·exact .inl (zdV om9)
          have m1:k - b+b<a+b:=om9;have m2:k - b<=x+y:=om9;clear l;rcases B with B|B
          all_goals
           rw [B]
           clear B
           go_wp2_with fail
           refine HS.out.mono ?_
           intro e w1 f
           obtain⟨A9,n9,c9,rfl,i,hb⟩:=f.elim
           have v:=lh9 (v.out.below hb)
           have u:=zac u hb
           have i:=lh9 i
           clear hb f HS z
           go_wp2
           go_roundg (a+b)
           case measure=>omega
           case rel=>exact⟨k - b,b,A9,n9,c9,A6,n6,c6,rfl,rfl,m1,I,m2,M,s,i,v,u⟩
