/- What this claim leans on. -/
import Derived.Test.YtlgnacmgepnamaaGreatDoorKW8Far
namespace Go.Proofs.YtlgnacmgepnamaaGreatDoor
open Go Go.RowKit
set_option maxHeartbeats 16000000
set_option maxRecDepth 100000
set_option linter.unusedVariables false
theorem zhS (x:Nat):((dg 65536 x).getD 0 0:Nat)%2=x%2:=by
 rw [zfB,Nat.pow_zero,Nat.div_one];omega
theorem zbT (x:Nat)(A:oA9)(n c:Nat)(w:World)(hA:zak w x A n c)(hn:n<=1099511627776)(h:x%2=0):
  Calls Tryz.prog 156 #[.slice A n c] w λe w'=>e=.returned (.bool true)/\w=w':=by
 have hd:=zcB A n c 0 _ _ w hA.1 hn
 have he:=zhS x
 rw [h] at he
 obtain⟨k,hk⟩:∃k,(dg 65536 x).getD 0 0=k:=⟨_,rfl⟩
 rw [hk] at hd he
 have hd:Calls Tryz.prog 148 #[.slice A n c,.int .i64 0] w λe w'=>e=.returned (.int .i64 (k:Int))/\w=w':=hd
 have HD:=lh9 hd
 have h1:(k:Int)%2=0:=by omega
 have h2:(k:Int).tmod 2=0:=by rw [Int.tmod_eq_emod_of_nonneg (by omega)];exact h1
 clear hd hk hA he
 go_enter Tryz.func156,Tryz.ntmps156
 go_wp2_with (go_at_call 148;(with_reducible refine HD.out.mono ?_);rintro e w' ⟨rfl,rfl⟩)
 go_ret
 exact⟨rfl,rfl⟩
theorem zck (x:Nat)(A:oA9)(n c:Nat)(w:World)(hA:zak w x A n c)(hn:n<=1099511627776)(h:x%2≠0):
  Calls Tryz.prog 156 #[.slice A n c] w λe w'=>e=.returned (.bool false)/\w=w':=by
 have hd:=zcB A n c 0 _ _ w hA.1 hn
 have he:=zhS x
 obtain⟨k,hk⟩:∃k,(dg 65536 x).getD 0 0=k:=⟨_,rfl⟩
 rw [hk] at hd he
 have hd:Calls Tryz.prog 148 #[.slice A n c,.int .i64 0] w λe w'=>e=.returned (.int .i64 (k:Int))/\w=w':=hd
 have HD:=lh9 hd
 have h1:(k:Int)%2=1:=by omega
 have h2:(k:Int).tmod 2=1:=by rw [Int.tmod_eq_emod_of_nonneg (by omega)];exact h1
 clear hd hk hA he h
 go_enter Tryz.func156,Tryz.ntmps156
 go_wp2_with (go_at_call 148;(with_reducible refine HD.out.mono ?_);rintro e w' ⟨rfl,rfl⟩)
 go_ret
 exact⟨rfl,rfl⟩
theorem zcF (x:Nat)(A:oA9)(n c:Nat)(w:World)(hA:zak w x A n c)(hn:n<=274877906944):
  Calls Tryz.prog 157 #[.slice A n c] w (zbw w (x / 2)):=by
 have hh:Calls Tryz.prog 174 #[.slice A n c,.int .i64 2] w (zjb w x 2):=zpB x 2 A n c w hA hn (by decide) (by decide)
 have HH:=lh9 hh
 clear hh hA
 go_enter Tryz.func157,Tryz.ntmps157
 go_wp2_with fail
 refine HH.out.mono ?_
 rintro e w1 ⟨v,rfl,hg⟩
 have G:=lh9 hg
 obtain⟨A1,n1,c1,he,_,_⟩:=hg.elim
 injection he with he
 subst he
 go_wp2
 go_ret
 exact G.out
theorem cop2 {q:Nat}(h:q%2≠0):Nat.gcd 2 q=1:=by
 have h1:Nat.gcd 2 q ∣ 2:=Nat.gcd_dvd_left 2 q
 have h2:=Nat.le_of_dvd (by decide) h1
 have h3:Nat.gcd 2 q≠0:=λe=>by rw [e] at h1;exact absurd (Nat.eq_zero_of_zero_dvd h1) (by decide)
 have h4:Nat.gcd 2 q≠2:=λe=>h (Nat.mod_eq_zero_of_dvd (by rw [<-e];exact Nat.gcd_dvd_right 2 q))
 omega
theorem zda {p q:Nat}(hp:p%2=0)(hq:q%2≠0):Nat.gcd (p / 2) q=Nat.gcd p q:=by
 have e:p=2*(p / 2):=by omega
 have h:Nat.Coprime 2 q:=cop2 hq
 rw [show Nat.gcd p q=Nat.gcd (2*(p / 2)) q from by rw [<-e]]
 exact(h.gcd_mul_left_cancel (p / 2)).symm
theorem zhW {p q:Nat}(hq:q%2=0)(hp:p%2≠0):Nat.gcd p (q / 2)=Nat.gcd p q:=by rw [Nat.gcd_comm,zda hq hp,Nat.gcd_comm]
theorem zeS {p q:Nat}(h:q<=p):Nat.gcd (p - q) q=Nat.gcd p q:=by
 obtain⟨s,rfl⟩:∃s,p=q+s:=⟨p - q,by omega⟩
 rw [Nat.add_sub_cancel_left,Nat.gcd_self_add_left]
theorem zbS {w:World}{x M N:Nat}{A:oA9}{n c:Nat}(h:zak w x A n c)(hx:x<=M)(hM:(dg 65536 M).length<=N):n<=N:=by
 rw [h.len]
 exact Nat.le_trans (zbd (by decide) hx) hM
theorem zee {w:World}{x:Nat}{A:oA9}{n c:Nat}(h:zak w x A n c)(hx:x≠0):0<n:=by
 have h1:=zaS (b:=65536) (by decide) x
 rw [<-h.len] at h1
 rcases Nat.eq_zero_or_pos n with h0|h0
 ·rw [h0] at h1;exact absurd (by simpa using h1) hx
 ·exact h0
theorem sum_len {x y n m K:Nat}(hx:(dg 65536 x).length=n)(hy:(dg 65536 y).length=m)(hn:n<=K)(hm:m<=K):(dg 65536 (x+y)).length<=K+1:=by
 have h1:=zaS (b:=65536) (by decide) x
 have h2:=zaS (b:=65536) (by decide) y
 rw [hx] at h1
 rw [hy] at h2
 have h3:65536^n<=65536^K:=Nat.pow_le_pow_right (by decide) hn
 have h4:65536^m<=65536^K:=Nat.pow_le_pow_right (by decide) hm
 refine zbj (by decide) _ _ ?_
 rw [Nat.pow_succ]
 omega
theorem ref5_gcd (x y:Nat)(A D:oA9)(n m c d:Nat)(w:World)(hA:zak w x A n c)(hD:zak w y D m d)(hn:n<=1073741824)(hm:m<=1073741824)(hx:x≠0)(hy:y≠0):
  Calls Tryz.prog 139 #[.slice A n c,.slice D m d] w (zbw w (Nat.gcd x y)):=by
 have hn0:=zee hA hx
 have hm0:=zee hD hy
 obtain⟨N,hN⟩:∃N,(dg 65536 (x+y)).length=N:=⟨_,rfl⟩
 have hN1:N<=1073741824+1:=by rw [<-hN];exact sum_len hA.len.symm hD.len.symm hn hm
 have HN:=lh9 (Nat.le_of_eq hN)
 have h2t:∀t p,x=2^t*p->p≠0->t<=17179869184:=λt p e hp=>by
  have h1:=zaS (b:=65536) (by decide) x
  rw [<-hA.len,show(65536:Nat)=2^16 from rfl,<-Nat.pow_mul] at h1
  have h2:2^t<=x:=by rw [e];exact Nat.le_mul_of_pos_right _ (Nat.pos_of_ne_zero hp)
  have h3:=(Nat.pow_lt_pow_iff_right (a:=2) (by decide)).1 (Nat.lt_of_le_of_lt h2 h1)
  omega
 have HT:=lh9 h2t
 have z1:((n:Int)==0)=false:=by simp;omega
 have z2:((m:Int)==0)=false:=by simp;omega
 have HA:=lh9 hA
 have HD:=lh9 hD
 have HX:=lh9 hx
 have HY:=lh9 hy
 have hB:=Below.refl w.heap.size w
 clear hN h2t hA hD hx hy
 go_enter Tryz.func139,Tryz.ntmps139
 go_wp2_with fail
 go_loopg [0,1,5] (x+1) (λg s0 s1 s5 wr=>∃(p q t:Nat) (A1:oA9) (n1 c1:Nat) (A2:oA9) (n2 c2:Nat),s0=.slice A1 n1 c1/\s1=.slice A2 n2 c2/\s5=.int .i64 (t:Int)/\p<g/\p≠0/\q≠0/\Hid (x=2^t*p)/\Hid (y=2^t*q)/\Hid (zak wr p A1 n1 c1)/\Hid (zak wr q A2 n2 c2)/\Below w.heap.size w wr)
 case atStart=>exact⟨x,y,0,A,n,c,D,m,d,rfl,rfl,rfl,by omega,HX.out,HY.out,by show _=_;simp,by show _=_;simp,HA,HD,hB⟩
 case round=>
  clear hB HA HD
  obtain⟨p,q,t,A1,n1,c1,A2,n2,c2,rfl,rfl,rfl,hg,hp0,hq0,he1,he2,hp,hq,hB⟩:=hrel
  have hpx:p<=x:=by rw [he1.out];exact Nat.le_mul_of_pos_left _ (Nat.two_pow_pos t)
  have hqy:q<=y:=by rw [he2.out];exact Nat.le_mul_of_pos_left _ (Nat.two_pow_pos t)
  have htb:=HT.out t p he1.out hp0
  have n1l:=zbS hp.out (show p<=x+y by omega) HN.out
  have n2l:=zbS hq.out (show q<=x+y by omega) HN.out
  by_cases hpe:p%2=0
  ·have E1:=lh9 (zbT p A1 n1 c1 wr hp.out (by omega) hpe)
   by_cases hqe:q%2=0
   ·have E2:=lh9 (zbT q A2 n2 c2 wr hq.out (by omega) hqe)
    have HH:=lh9 (zcF p A1 n1 c1 wr hp.out (by omega))
    have hf1:=lh9 (show x=2^(t+1)*(p / 2) by rw [Nat.pow_succ,Nat.mul_assoc,show 2*(p / 2)=p by omega];exact he1.out)
    have hf2:=lh9 (show y=2^(t+1)*(q / 2) by rw [Nat.pow_succ,Nat.mul_assoc,show 2*(q / 2)=q by omega];exact he2.out)
    have m1:p / 2≠0/\q / 2≠0/\p / 2<p:=by omega
    obtain⟨m1,m2,m3⟩:=m1
    clear hpe hqe he1 he2
    go_wp2_with (first|(go_at_call 156;(with_reducible refine E1.out.mono ?_);rintro e w' ⟨rfl,rfl⟩)|(go_at_call 156;(with_reducible refine E2.out.mono ?_);rintro e w' ⟨rfl,rfl⟩))
    refine HH.out.mono ?_
    intro e w1 hg2
    obtain⟨A9,n9,c9,rfl,hk9,hb⟩:=hg2.elim
    clear hg2
    have hq:=lh9 (hq.out.below hb)
    have hB:=zac hB hb
    have hk9:=lh9 hk9
    have HH2:=lh9 (zcF q A2 n2 c2 w1 hq.out (by omega))
    clear hb hp E1 E2 HH
    go_wp2_with fail
    refine HH2.out.mono ?_
    intro e w2 hg2
    obtain⟨A8,n8,c8,rfl,hk8,hb⟩:=hg2.elim
    have hk9:=lh9 (hk9.out.below hb)
    have hB:=zac hB hb
    have hk8:=lh9 hk8
    clear hb hq HH2 hg2
    go_wp2
    go_roundg p
    case measure=>omega
    case rel=>exact⟨p / 2,q / 2,t+1,A9,n9,c9,A8,n8,c8,rfl,rfl,by go_num,m3,m1,m2,hf1,hf2,hk9,hk8,hB⟩
   ·have E2:=lh9 (zck q A2 n2 c2 wr hq.out (by omega) hqe)
    have hodd:p%2≠0\/q%2≠0:=.inr hqe
    clear hpe
    go_wp2_with (first|(go_at_call 156;(with_reducible refine E1.out.mono ?_);rintro e w' ⟨rfl,rfl⟩)|(go_at_call 156;(with_reducible refine E2.out.mono ?_);rintro e w' ⟨rfl,rfl⟩))
    clear E1 E2 hqe
    go_loopg [1] (q+1) (λg s1 wr=>∃(r:Nat) (A3:oA9) (n3 c3:Nat),s1=.slice A3 n3 c3/\r<g/\r≠0/\r<=q/\(p%2≠0\/r%2≠0)/\Hid (Nat.gcd p r=Nat.gcd p q)/\Hid (zak wr p A1 n1 c1)/\Hid (zak wr r A3 n3 c3)/\Below w.heap.size w wr)
    case atStart=>exact⟨q,A2,n2,c2,rfl,by omega,hq0,Nat.le_refl _,hodd,rfl,hp,hq,hB⟩
    case round=>
     clear hp hq hB hodd
     obtain⟨r,A3,n3,c3,rfl,hrg,hr0,hrq,hodd,hgr,hp,hr,hB⟩:=hrel
     have n3l:=zbS hr.out (show r<=x+y by omega) HN.out
     by_cases hre:r%2=0
     ·have hpo:p%2≠0:=by omega
      have E1:=lh9 (zbT r A3 n3 c3 wr hr.out (by omega) hre)
      have HH:=lh9 (zcF r A3 n3 c3 wr hr.out (by omega))
      have hg3:=lh9 ((zhW hre hpo).trans hgr.out)
      have hr2:r / 2≠0:=by omega
      have hr3:r / 2<=q:=by omega
      have hr4:r / 2<r:=by omega
      have hodd2:p%2≠0\/r / 2%2≠0:=.inl hpo
      clear hre hgr hodd hpo
      go_wp2_with (first|(go_at_call 156;(with_reducible refine E1.out.mono ?_);rintro e w' ⟨rfl,rfl⟩))
      refine HH.out.mono ?_
      intro e w1 hg2
      obtain⟨A9,n9,c9,rfl,hk9,hb⟩:=hg2.elim
      clear hg2
      have hp:=lh9 (hp.out.below hb)
      have hB:=zac hB hb
      have hk9:=lh9 hk9
      clear hb hr E1 HH
      go_wp2
      go_roundg r
      case measure=>omega
      case rel=>exact⟨r / 2,A9,n9,c9,rfl,hr4,hr2,hr3,hodd2,hg3,hp,hk9,hB⟩
     ·have E1:=lh9 (zck r A3 n3 c3 wr hr.out (by omega) hre)
      clear hodd
      go_wp2_with (first|(go_at_call 156;(with_reducible refine E1.out.mono ?_);rintro e w' ⟨rfl,rfl⟩))
      clear E1
      go_loopg [0,1] (p+r+1) (λg s0 s1 wr=>∃(a b:Nat) (A5:oA9) (n5 c5:Nat) (A6:oA9) (n6 c6:Nat),s0=.slice A5 n5 c5/\s1=.slice A6 n6 c6/\a+b<g/\b%2≠0/\a<=x+y/\b<=x+y/\Hid (Nat.gcd a b=Nat.gcd p q)/\Hid (zak wr a A5 n5 c5)/\Hid (zak wr b A6 n6 c6)/\Below w.heap.size w wr)
      case atStart=>exact⟨p,r,A1,n1,c1,A3,n3,c3,rfl,rfl,by omega,hre,by omega,by omega,hgr,hp,hr,hB⟩
      case round=>
       clear hp hr hB hgr
       obtain⟨a,b,A5,n5,c5,A6,n6,c6,rfl,rfl,hag,hbo,haM,hbM,hgc,ha,hbb,hB⟩:=hrel
       by_cases ha0:a=0
       ·have n50:n5=0:=by rw [ha.out.len,ha0];rfl
        have n6l:=zbS hbb.out (show b<=x+y by omega) HN.out
        have HS:=zma b t A6 n6 c6 wr hbb.out (by omega) (by omega)
        have e:b*2^t=Nat.gcd x y:=by
         have h1:=hgc.out
         rw [ha0,Nat.gcd_zero_left] at h1
         rw [he1.out,he2.out,Nat.gcd_mul_left,<-h1,Nat.mul_comm]
        rw [e] at HS
        have HSH:=lh9 HS
        subst n50
        clear HS e hgc ha hbb ha0
        go_wp2_with fail
        refine HSH.out.mono ?_
        intro e w1 hg2
        have G:=lh9 (hg2.from_ hB)
        obtain⟨A9,n9,c9,rfl,_,_⟩:=hg2.elim
        clear hg2
        go_wp2
        go_ret
        exact G.out
       ·have n5p:=zee ha.out ha0
        have z5:decide ((0:Int)<(n5:Int))=true:=by simpa using n5p
        go_wp2_with fail
        obtain⟨wo,hwo⟩:∃wo,wo=wr:=⟨_,rfl⟩
        subst hwo
        go_loopg [0] (a+1) (λg s0 wr=>∃(k:Nat) (A7:oA9) (n7 c7:Nat),s0=.slice A7 n7 c7/\k<g/\k≠0/\k<=a/\Hid (Nat.gcd k b=Nat.gcd p q)/\Hid (zak wr k A7 n7 c7)/\Hid (zak wr b A6 n6 c6)/\Below w.heap.size w wr)
        case atStart=>exact⟨a,A5,n5,c5,rfl,by omega,ha0,Nat.le_refl _,hgc,ha,hbb,hB⟩
        case round=>
         clear ha hbb hB hgc
         obtain⟨k,A7,n7,c7,rfl,hkg,hk0,hka,hgc,hk,hbb,hB⟩:=hrel
         have n7l:=zbS hk.out (show k<=x+y by omega) HN.out
         have n6l:=zbS hbb.out (show b<=x+y by omega) HN.out
         by_cases hke:k%2=0
         ·have E1:=lh9 (zbT k A7 n7 c7 wr hk.out (by omega) hke)
          have HH:=lh9 (zcF k A7 n7 c7 wr hk.out (by omega))
          have hg3:=lh9 ((zda hke hbo).trans hgc.out)
          have hk2:k / 2≠0:=by omega
          have hk3:k / 2<=a:=by omega
          have hk4:k / 2<k:=by omega
          clear hke hgc
          go_wp2_with (first|(go_at_call 156;(with_reducible refine E1.out.mono ?_);rintro e w' ⟨rfl,rfl⟩))
          refine HH.out.mono ?_
          intro e w1 hg2
          obtain⟨A9,n9,c9,rfl,hk9,hb⟩:=hg2.elim
          clear hg2
          have hbb:=lh9 (hbb.out.below hb)
          have hB:=zac hB hb
          have hk9:=lh9 hk9
          clear hb hk E1 HH
          go_wp2
          go_roundg k
          case measure=>omega
          case rel=>exact⟨k / 2,A9,n9,c9,rfl,hk4,hk2,hk3,hg3,hk9,hbb,hB⟩
         ·have E1:=lh9 (zck k A7 n7 c7 wr hk.out (by omega) hke)
          have HC:=lh9 (zgz k b A7 A6 n7 n6 c7 c6 wr hk.out hbb.out (by omega) (by omega))
          go_wp2_with (first|(go_at_call 156;(with_reducible refine E1.out.mono ?_);rintro e w' ⟨rfl,rfl⟩))
          refine HC.out.mono ?_
          rintro e w' ⟨rfl,qd,rfl⟩
          have hkD:Hid (zak (wr.drewN qd) k A7 n7 c7):=hk
          have hbD:Hid (zak (wr.drewN qd) b A6 n6 c6):=hbb
          have hBD:=zaW hB qd
          clear hk hbb hB E1 HC
          by_cases hlt:k<b
          ·have HS:=lh9 (zfd b k (Nat.le_of_lt hlt) A6 A7 n6 n7 c6 c7 _ hbD.out hkD.out (by omega) (by omega))
           have hg3:=lh9 ((zeS (Nat.le_of_lt hlt)).trans ((Nat.gcd_comm b k).trans hgc.out))
           rw [zcw hlt]
           have m1:b - k+k<a+b:=by omega
           have m2:b - k<=x+y:=by omega
           have m3:k<=x+y:=by omega
           clear hgc
           go_wp2_with fail
           refine HS.out.mono ?_
           intro e w1 hg2
           obtain⟨A9,n9,c9,rfl,hk9,hb⟩:=hg2.elim
           have hkD:=lh9 (hkD.out.below hb)
           have hBD:=zac hBD hb
           have hk9:=lh9 hk9
           clear hb hg2 HS hbD
           go_wp2
           go_roundg (a+b)
           case measure=>omega
           case rel=>exact⟨b - k,k,A9,n9,c9,A7,n7,c7,rfl,rfl,m1,hke,m2,m3,hg3,hk9,hkD,hBD⟩
          ·have hle:b<=k:=by omega
           have HS:=lh9 (zfd k b hle A7 A6 n7 n6 c7 c6 _ hkD.out hbD.out (by omega) (by omega))
           have hg3:=lh9 ((zeS hle).trans hgc.out)
           have hci:zbh k b=0\/zbh k b=1:=by
            rcases Nat.lt_or_ge b k with h|h
            ·exact .inr (zcv h)
            ·exact .inl (zdx (by omega))
           have m1:k - b+b<a+b:=by omega
           have m2:k - b<=x+y:=by omega
           clear hgc
           rcases hci with hci|hci
           all_goals
            rw [hci]
            clear hci
            go_wp2_with fail
            refine HS.out.mono ?_
            intro e w1 hg2
            obtain⟨A9,n9,c9,rfl,hk9,hb⟩:=hg2.elim
            have hbD:=lh9 (hbD.out.below hb)
            have hBD:=zac hBD hb
            have hk9:=lh9 hk9
            clear hb hg2 HS hkD
            go_wp2
            go_roundg (a+b)
            case measure=>omega
            case rel=>exact⟨k - b,b,A9,n9,c9,A6,n6,c6,rfl,rfl,m1,hbo,m2,hbM,hg3,hk9,hbD,hBD⟩
  ·have E1:=lh9 (zck p A1 n1 c1 wr hp.out (by omega) hpe)
   have hodd:p%2≠0\/q%2≠0:=.inl hpe
   clear hpe
   go_wp2_with (first|(go_at_call 156;(with_reducible refine E1.out.mono ?_);rintro e w' ⟨rfl,rfl⟩))
   clear E1
   go_loopg [1] (q+1) (λg s1 wr=>∃(r:Nat) (A3:oA9) (n3 c3:Nat),s1=.slice A3 n3 c3/\r<g/\r≠0/\r<=q/\(p%2≠0\/r%2≠0)/\Hid (Nat.gcd p r=Nat.gcd p q)/\Hid (zak wr p A1 n1 c1)/\Hid (zak wr r A3 n3 c3)/\Below w.heap.size w wr)
   case atStart=>exact⟨q,A2,n2,c2,rfl,by omega,hq0,Nat.le_refl _,hodd,rfl,hp,hq,hB⟩
   case round=>
    clear hp hq hB hodd
    obtain⟨r,A3,n3,c3,rfl,hrg,hr0,hrq,hodd,hgr,hp,hr,hB⟩:=hrel
    have n3l:=zbS hr.out (show r<=x+y by omega) HN.out
    by_cases hre:r%2=0
    ·have hpo:p%2≠0:=by omega
     have E1:=lh9 (zbT r A3 n3 c3 wr hr.out (by omega) hre)
     have HH:=lh9 (zcF r A3 n3 c3 wr hr.out (by omega))
     have hg3:=lh9 ((zhW hre hpo).trans hgr.out)
     have hr2:r / 2≠0:=by omega
     have hr3:r / 2<=q:=by omega
     have hr4:r / 2<r:=by omega
     have hodd2:p%2≠0\/r / 2%2≠0:=.inl hpo
     clear hre hgr hodd hpo
     go_wp2_with (first|(go_at_call 156;(with_reducible refine E1.out.mono ?_);rintro e w' ⟨rfl,rfl⟩))
     refine HH.out.mono ?_
     intro e w1 hg2
     obtain⟨A9,n9,c9,rfl,hk9,hb⟩:=hg2.elim
     clear hg2
     have hp:=lh9 (hp.out.below hb)
     have hB:=zac hB hb
     have hk9:=lh9 hk9
     clear hb hr E1 HH
     go_wp2
     go_roundg r
     case measure=>omega
     case rel=>exact⟨r / 2,A9,n9,c9,rfl,hr4,hr2,hr3,hodd2,hg3,hp,hk9,hB⟩
    ·have E1:=lh9 (zck r A3 n3 c3 wr hr.out (by omega) hre)
     clear hodd
     go_wp2_with (first|(go_at_call 156;(with_reducible refine E1.out.mono ?_);rintro e w' ⟨rfl,rfl⟩))
     clear E1
     go_loopg [0,1] (p+r+1) (λg s0 s1 wr=>∃(a b:Nat) (A5:oA9) (n5 c5:Nat) (A6:oA9) (n6 c6:Nat),s0=.slice A5 n5 c5/\s1=.slice A6 n6 c6/\a+b<g/\b%2≠0/\a<=x+y/\b<=x+y/\Hid (Nat.gcd a b=Nat.gcd p q)/\Hid (zak wr a A5 n5 c5)/\Hid (zak wr b A6 n6 c6)/\Below w.heap.size w wr)
     case atStart=>exact⟨p,r,A1,n1,c1,A3,n3,c3,rfl,rfl,by omega,hre,by omega,by omega,hgr,hp,hr,hB⟩
     case round=>
      clear hp hr hB hgr
      obtain⟨a,b,A5,n5,c5,A6,n6,c6,rfl,rfl,hag,hbo,haM,hbM,hgc,ha,hbb,hB⟩:=hrel
      by_cases ha0:a=0
      ·have n50:n5=0:=by rw [ha.out.len,ha0];rfl
       have n6l:=zbS hbb.out (show b<=x+y by omega) HN.out
       have HS:=zma b t A6 n6 c6 wr hbb.out (by omega) (by omega)
       have e:b*2^t=Nat.gcd x y:=by
        have h1:=hgc.out
        rw [ha0,Nat.gcd_zero_left] at h1
        rw [he1.out,he2.out,Nat.gcd_mul_left,<-h1,Nat.mul_comm]
       rw [e] at HS
       have HSH:=lh9 HS
       subst n50
       clear HS e hgc ha hbb ha0
       go_wp2_with fail
       refine HSH.out.mono ?_
       intro e w1 hg2
       have G:=lh9 (hg2.from_ hB)
       obtain⟨A9,n9,c9,rfl,_,_⟩:=hg2.elim
       clear hg2
       go_wp2
       go_ret
       exact G.out
      ·have n5p:=zee ha.out ha0
       have z5:decide ((0:Int)<(n5:Int))=true:=by simpa using n5p
       go_wp2_with fail
       obtain⟨wo,hwo⟩:∃wo,wo=wr:=⟨_,rfl⟩
       subst hwo
       go_loopg [0] (a+1) (λg s0 wr=>∃(k:Nat) (A7:oA9) (n7 c7:Nat),s0=.slice A7 n7 c7/\k<g/\k≠0/\k<=a/\Hid (Nat.gcd k b=Nat.gcd p q)/\Hid (zak wr k A7 n7 c7)/\Hid (zak wr b A6 n6 c6)/\Below w.heap.size w wr)
       case atStart=>exact⟨a,A5,n5,c5,rfl,by omega,ha0,Nat.le_refl _,hgc,ha,hbb,hB⟩
       case round=>
        clear ha hbb hB hgc
        obtain⟨k,A7,n7,c7,rfl,hkg,hk0,hka,hgc,hk,hbb,hB⟩:=hrel
        have n7l:=zbS hk.out (show k<=x+y by omega) HN.out
        have n6l:=zbS hbb.out (show b<=x+y by omega) HN.out
        by_cases hke:k%2=0
        ·have E1:=lh9 (zbT k A7 n7 c7 wr hk.out (by omega) hke)
         have HH:=lh9 (zcF k A7 n7 c7 wr hk.out (by omega))
         have hg3:=lh9 ((zda hke hbo).trans hgc.out)
         have hk2:k / 2≠0:=by omega
         have hk3:k / 2<=a:=by omega
         have hk4:k / 2<k:=by omega
         clear hke hgc
         go_wp2_with (first|(go_at_call 156;(with_reducible refine E1.out.mono ?_);rintro e w' ⟨rfl,rfl⟩))
         refine HH.out.mono ?_
         intro e w1 hg2
         obtain⟨A9,n9,c9,rfl,hk9,hb⟩:=hg2.elim
         clear hg2
         have hbb:=lh9 (hbb.out.below hb)
         have hB:=zac hB hb
         have hk9:=lh9 hk9
         clear hb hk E1 HH
         go_wp2
         go_roundg k
         case measure=>omega
         case rel=>exact⟨k / 2,A9,n9,c9,rfl,hk4,hk2,hk3,hg3,hk9,hbb,hB⟩
        ·have E1:=lh9 (zck k A7 n7 c7 wr hk.out (by omega) hke)
         have HC:=lh9 (zgz k b A7 A6 n7 n6 c7 c6 wr hk.out hbb.out (by omega) (by omega))
         go_wp2_with (first|(go_at_call 156;(with_reducible refine E1.out.mono ?_);rintro e w' ⟨rfl,rfl⟩))
         refine HC.out.mono ?_
         rintro e w' ⟨rfl,qd,rfl⟩
         have hkD:Hid (zak (wr.drewN qd) k A7 n7 c7):=hk
         have hbD:Hid (zak (wr.drewN qd) b A6 n6 c6):=hbb
         have hBD:=zaW hB qd
         clear hk hbb hB E1 HC
         by_cases hlt:k<b
         ·have HS:=lh9 (zfd b k (Nat.le_of_lt hlt) A6 A7 n6 n7 c6 c7 _ hbD.out hkD.out (by omega) (by omega))
          have hg3:=lh9 ((zeS (Nat.le_of_lt hlt)).trans ((Nat.gcd_comm b k).trans hgc.out))
          rw [zcw hlt]
          have m1:b - k+k<a+b:=by omega
          have m2:b - k<=x+y:=by omega
          have m3:k<=x+y:=by omega
          clear hgc
          go_wp2_with fail
          refine HS.out.mono ?_
          intro e w1 hg2
          obtain⟨A9,n9,c9,rfl,hk9,hb⟩:=hg2.elim
          have hkD:=lh9 (hkD.out.below hb)
          have hBD:=zac hBD hb
          have hk9:=lh9 hk9
          clear hb hg2 HS hbD
          go_wp2
          go_roundg (a+b)
          case measure=>omega
          case rel=>exact⟨b - k,k,A9,n9,c9,A7,n7,c7,rfl,rfl,m1,hke,m2,m3,hg3,hk9,hkD,hBD⟩
         ·have hle:b<=k:=by omega
          have HS:=lh9 (zfd k b hle A7 A6 n7 n6 c7 c6 _ hkD.out hbD.out (by omega) (by omega))
          have hg3:=lh9 ((zeS hle).trans hgc.out)
          have hci:zbh k b=0\/zbh k b=1:=by
           rcases Nat.lt_or_ge b k with h|h
           ·exact .inr (zcv h)
           ·exact .inl (zdx (by omega))
          have m1:k - b+b<a+b:=by omega
          have m2:k - b<=x+y:=by omega
          clear hgc
          rcases hci with hci|hci
          all_goals
           rw [hci]
           clear hci
           go_wp2_with fail
           refine HS.out.mono ?_
           intro e w1 hg2
           obtain⟨A9,n9,c9,rfl,hk9,hb⟩:=hg2.elim
           have hbD:=lh9 (hbD.out.below hb)
           have hBD:=zac hBD hb
           have hk9:=lh9 hk9
           clear hb hg2 HS hkD
           go_wp2
           go_roundg (a+b)
           case measure=>omega
           case rel=>exact⟨k - b,b,A9,n9,c9,A6,n6,c6,rfl,rfl,m1,hbo,m2,hbM,hg3,hk9,hbD,hBD⟩
