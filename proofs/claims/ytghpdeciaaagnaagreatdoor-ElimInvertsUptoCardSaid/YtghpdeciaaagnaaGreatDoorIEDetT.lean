/- What this claim leans on. -/
import Derived.Test.YtghpdeciaaagnaaGreatDoorIEAll
import Derived.Test.YtghpdeciaaagnaaGreatDoorIMGrid
namespace Go.Proofs.YtghpdeciaaagnaaGreatDoor
open Go Go.RowKit
set_option maxHeartbeats 16000000
set_option linter.unusedVariables false
def zbi (M:Nat->Nat->Rat)(k:Nat)(v:Nat->Rat):Nat->Nat->Rat:=λi j=>if i=k then v j else M i j
theorem zhR (M:Nat->Nat->Rat)(v:Nat->Rat)(c:Nat):mnr (zbi M 0 v) c=mnr M c:=by
 funext i j;unfold mnr zbi;rw [if_neg (by omega)]
theorem zfG (M:Nat->Nat->Rat)(k:Nat)(v:Nat->Rat)(c:Nat):mnr (zbi M (k+1) v) c=zbi (mnr M c) k λj=>v (skp c j):=by
 funext i j;unfold mnr zbi
 by_cases e:i=k
 ·rw [if_pos e,if_pos (by omega)]
 ·rw [if_neg e,if_neg (by omega)]
theorem zez:∀{n:Nat} (M:Nat->Nat->Rat) {k:Nat} (_:k<n) (a b:Rat) (u v:Nat->Rat),zaF n (zbi M k λj=>a*u j+b*v j)=a*zaF n (zbi M k u)+b*zaF n (zbi M k v)
 |0,M,k,hk,_,_,_,_=>by omega
 |n+1,M,0,hk,a,b,u,v=>by
   rw [zaX,zaX,zaX,zaK,zaK,<-zco]
   refine zan λc _=>?_
   rw [zhR,zhR,zhR]
   show sg c*(a*u c+b*v c)*_=a*(sg c*u c*_)+b*(sg c*v c*_)
   grind
 |n+1,M,k+1,hk,a,b,u,v=>by
   rw [zaX,zaX,zaX,zaK,zaK,<-zco]
   refine zan λc _=>?_
   rw [zfG,zfG,zfG,zez (mnr M c) (by omega) a b]
   have e:∀w:Nat->Rat,zbi M (k+1) w 0 c=M 0 c:=λw=>by unfold zbi;rw [if_neg (by omega)]
   rw [e,e,e]
   grind
theorem zpd (k:Nat)(f:Nat->Rat):zaw (k+1) f=f 0+zaw k λi=>f (i+1):=by
 induction k with
 |zero=>rw [zaL];show(0:Rat)+f 0=f 0+0;grind
 |succ k ih=>rw [zaL,ih,zaL];grind
theorem skp_skp {c d j:Nat}(h:d<=c):skp (c+1) (skp d j)=skp d (skp c j):=by
 unfold skp
 by_cases h1:j<d
 ·rw [if_pos h1,if_pos (by omega:j<c),if_pos (by omega),if_pos h1]
 ·rw [if_neg h1]
  by_cases h2:j<c
  ·rw [if_pos h2,if_pos (by omega),if_neg h1]
  ·rw [if_neg h2,if_neg (by omega),if_neg (by omega)]
theorem zmF {n:Nat}{M:Nat->Nat->Rat}(h:∀j,M 0 j=M 1 j):zaF (n+2) M=0:=by
 obtain⟨g,hg⟩:∃g:Nat->Nat->Rat,∀c d,g c d=sg c*M 0 c*(sg d*M 1 (skp c d)*zaF n (mnr (mnr M c) d)):=⟨_,λ_ _=>rfl⟩
 have e1:zaF (n+2) M=zaw (n+2) λc=>zaw (n+1) λd=>g c d:=by
  rw [zaX]
  refine zan λc _=>?_
  rw [zaX,zaK]
  exact zan λd _=>(hg c d).symm
 have anti:∀c d,d<=c->g (c+1) d= -g d c:=λc d hd=>by
  rw [hg,hg]
  have s1:skp (c+1) d=d:=by unfold skp;rw [if_pos (by omega)]
  have s2:skp d c=c+1:=by unfold skp;rw [if_neg (by omega)]
  have s3:mnr (mnr M (c+1)) d=mnr (mnr M d) c:=by
   funext i j;unfold mnr;rw [skp_skp hd]
  rw [s1,s2,s3,h (c+1),h d,zpL]
  grind
 have e2:∀c d,g c d=(if d<c then g c d else 0)+(if d<c then 0 else g c d):=λc d=>by
  by_cases q:d<c
  ·rw [if_pos q,if_pos q,Rat.add_zero]
  ·rw [if_neg q,if_neg q,Rat.zero_add]
 have e3:(zaw (n+2) λc=>zaw (n+1) λd=>g c d)=(zaw (n+2) λc=>zaw (n+1) λd=>if d<c then g c d else 0)+zaw (n+2) λc=>zaw (n+1) λd=>if d<c then 0 else g c d:=by
  rw [<-zco]
  refine zan λc _=>?_
  rw [<-zco]
  exact zan λd _=>e2 c d
 have e4:(zaw (n+2) λc=>zaw (n+1) λd=>if d<c then g c d else 0)=zaw (n+1) λc=>zaw (n+1) λd=>if d<=c then g (c+1) d else 0:=by
  rw [zpd,zbB λd _=>by rw [if_neg (by omega)],Rat.zero_add]
  exact zan λc _=>zan λd _=>by
   by_cases q:d<=c
   ·rw [if_pos q,if_pos (by omega)]
   ·rw [if_neg q,if_neg (by omega)]
 have e5:(zaw (n+2) λc=>zaw (n+1) λd=>if d<c then 0 else g c d)=zaw (n+1) λd=>zaw (n+1) λc=>if c<=d then g c d else 0:=by
  rw [zgn]
  refine zan λd hd=>?_
  rw [zaL,if_pos (by omega),Rat.add_zero]
  exact zan λc _=>by
   by_cases q:c<=d
   ·rw [if_pos q,if_neg (by omega)]
   ·rw [if_neg q,if_pos (by omega)]
 rw [e1,e3,e4,e5,<-zco]
 refine zbB λc _=>?_
 rw [<-zco]
 refine zbB λd _=>?_
 by_cases q:d<=c
 ·rw [if_pos q,if_pos q,anti c d q];grind
 ·rw [if_neg q,if_neg q];grind
theorem zme (M:Nat->Nat->Rat)(k:Nat)(v:Nat->Rat)(j:Nat):zbi M k v k j=v j:=if_pos rfl
theorem zgk (M:Nat->Nat->Rat){k i:Nat}(h:i≠k)(v:Nat->Rat)(j:Nat):zbi M k v i j=M i j:=if_neg h
theorem zhW {M:Nat->Nat->Rat}{k l:Nat}(h:k≠l)(u v:Nat->Rat):zbi (zbi M k u) l v=zbi (zbi M l v) k u:=by
 funext i j
 unfold zbi
 by_cases e:i=l
 ·rw [if_pos e,if_neg (by omega),if_pos e]
 ·rw [if_neg e,if_neg e]
theorem rswap {n k l:Nat}(hk:k<n)(hl:l<n)(hne:k≠l)(same:∀M:Nat->Nat->Rat,(∀j,M k j=M l j)->zaF n M=0)(M:Nat->Nat->Rat)(u v:Nat->Rat):zaF n (zbi (zbi M k u) l v)= -zaF n (zbi (zbi M k v) l u):=by
 have s:∀w:Nat->Rat,zaF n (zbi (zbi M k w) l w)=0:=λw=>same _ λj=>by rw [zme,zgk _ hne,zme]
 have e1:∀a x y:Nat->Rat,zaF n (zbi (zbi M k a) l λj=>1*x j+1*y j)=1*zaF n (zbi (zbi M k a) l x)+1*zaF n (zbi (zbi M k a) l y):=λa x y=>zez _ hl 1 1 x y
 have e2:∀b x y:Nat->Rat,zaF n (zbi (zbi M k λj=>1*x j+1*y j) l b)=1*zaF n (zbi (zbi M k x) l b)+1*zaF n (zbi (zbi M k y) l b):=λb x y=>by
  rw [zhW hne,zhW hne,zhW hne];exact zez _ hk 1 1 x y
 have h1:=s λj=>1*u j+1*v j
 rw [e1,e2,e2,s u,s v] at h1
 grind
theorem zeA:∀{n:Nat} {M:Nat->Nat->Rat} {k l:Nat},k<l->l<n->(∀j,M k j=M l j)->zaF n M=0
 |0,_,_,_,_,h,_=>by omega
 |n+1,M,k+1,l,hkl,hl,h=>by
   rw [zaX]
   refine zbB λc _=>?_
   obtain⟨l',rfl⟩:∃q,l=q+1:=⟨l - 1,by omega⟩
   rw [zeA (n:=n) (M:=mnr M c) (k:=k) (l:=l') (by omega) (by omega) λj=>h _,Rat.mul_zero]
 |n+1,M,0,l,hkl,hl,h=>by
   obtain⟨n',rfl⟩:∃q,n=q+1:=⟨n - 1,by omega⟩
   by_cases e:l=1
   ·subst e;exact zmF h
   ·-- rows 1 and l are exchanged:below the first row all rows are known
    have e1:zaF (n'+2) M= -zaF (n'+2) (zbi (zbi M 1 (M l)) l (M 1)):=by
     rw [zaX,zaX,<-zkd]
     refine zan λc _=>?_
     obtain⟨l',rfl⟩:∃q,l=q+1:=⟨l - 1,by omega⟩
     have f1:zbi (zbi M 1 (M (l'+1))) (l'+1) (M 1) 0 c=M 0 c:=by rw [zgk _ (by omega),zgk _ (by omega)]
     have f2:mnr (zbi (zbi M (0+1) (M (l'+1))) (l'+1) (M 1)) c=zbi (zbi (mnr M c) 0 λj=>M (l'+1) (skp c j)) l' λj=>M 1 (skp c j):=by rw [zfG,zfG]
     have f3:mnr M c=zbi (zbi (mnr M c) 0 λj=>M 1 (skp c j)) l' λj=>M (l'+1) (skp c j):=by
      funext i j
      unfold zbi
      by_cases q1:i=l'
      ·rw [if_pos q1,q1];rfl
      ·rw [if_neg q1]
       by_cases q2:i=0
       ·rw [if_pos q2,q2];rfl
       ·rw [if_neg q2]
     have f4:=rswap (n:=n'+1) (k:=0) (l:=l') (by omega) (by omega) (by omega) (λN hN=>zeA (n:=n'+1) (M:=N) (k:=0) (l:=l') (by omega) (by omega) hN) (mnr M c) (λj=>M 1 (skp c j)) (λj=>M (l'+1) (skp c j))
     rw [<-f3] at f4
     rw [f1,f2,f4]
     grind
    rw [e1,zmF (M:=zbi (zbi M 1 (M l)) l (M 1)) λj=>by
     rw [zgk _ (by omega),zgk _ (by omega),zgk _ (by omega),zme];exact h j,Rat.neg_zero]
theorem zkE (n:Nat)(M:Nat->Nat->Rat):zaF n (λi j=>M j i)=zaF n M:=by
 have ha:Alt n λM=>zaF n λi j=>M j i:=⟨λM N e=>zaV λi hi j hj=>e j hj i hi,λM k hk a b u v=>by
   show zaF n _=_
   have e:∀w:Nat->Rat,(λi j=>zaQ M k w j i)=zbi (λi j=>M j i) k w:=λw=>rfl
   rw [e,e,e]
   exact zez _ hk a b u v,λM k l hk hl hne e=>by
   show zaF n (λi j=>M j i)=0
   have e2:zaF n (λi j=>M j i)=zaF n λi j=>if j<n then M j i else 0:=zaV λi _ j hj=>by rw [if_pos hj]
   rw [e2]
   rcases Nat.lt_trichotomy k l with a|a|a
   ·exact zeA a hl λj=>by
     by_cases q:j<n
     ·rw [if_pos q,if_pos q];exact e j q
     ·rw [if_neg q,if_neg q]
   ·exact absurd a hne
   ·exact zeA a hk λj=>by
     by_cases q:j<n
     ·rw [if_pos q,if_pos q];exact(e j q).symm
     ·rw [if_neg q,if_neg q]⟩
 have h1:=ha.one_ (Alt.det_ n) M
 have h2:(λi j=>zda j i)=zda:=by
  funext i j;unfold zda
  by_cases e:i=j
  ·rw [if_pos e,if_pos e.symm]
  ·rw [if_neg e,if_neg (Ne.symm e)]
 rw [zfA,Rat.mul_one] at h1
 have h3:zaF n (λi j=>M j i)=zaF n M*zaF n (λi j=>zda j i):=h1
 rw [h3,h2,zfA,Rat.mul_one]
set_option maxRecDepth 100000
set_option linter.unusedSimpArgs false
section
variable {w:World}{A:oA9}{n c m K K0:Nat}{MM:List (List Rat)}
theorem zgq.slot {w:World}{base g:Nat}{t:TypeId}{v:Value}{ld:List Nat}{cs:Array Value}(h:zgq w base v ld)(hk:Blk w g t cs)(ht:t≠3)(i:Nat)(x:Value):zgq (w.setCell ⟨g,i,none⟩ x) base v ld:=
 h.off λq s ds hq hq2=>Blk.far (p:=⟨g,i,none⟩) hq2 (λe=>by
  have e:q=g:=e
  subst e
  rcases h.own.2 with⟨h5,_⟩|⟨g',cap,cur,e1,e2,e3,_⟩
  ·rw [h5] at hq;cases hq
  ·rw [e1] at hq
   simp [Value.ownBlock] at hq
   subst hq
   exact ht (zdc hk e3)) _
theorem zjl (hT:zai w)(h:zaR w A n c m MM)(z:zax K0 MM)(hW:zbS K MM)(hK:260*K+269<=33554432:=by omega)(hK0:K+K0<=33554432:=by omega)(hKp:0<K:=by omega):
  Calls Tryz.prog 61 #[.agg #[.slice A n c,.int .i64 (m:Int)]] w (ziW w n m (zfS m MM) (zbg m MM).ld):=by
 obtain⟨hn,hm⟩:=And.intro h.hn h.hm
 have HM:=lh9 (λw' (hb:Below w.heap.size w w')=>h.keep hb)
 have HT:=lh9 (λw' (hb:Below w.heap.size w w')=>hT.on hb)
 have HZ:=lh9 z
 have HW:=lh9 hW
 have HD:=lh9 h.dims
 have hok:=zcx h.dims
 obtain⟨s1,s2,s3,s4⟩:=zhw h.dims hn hW
 have HS1:=lh9 s1
 have HS2:=lh9 s2
 have HS3:=lh9 s3
 have HS4:=lh9 s4
 have HDR:=lh9 (zqX h.dims)
 have HDS:=lh9 hok.dims
 have HLL:Hid (∀l ∈(zbg m MM).ld,l<128):=λl hl=>by have:=ok_lt hok l hl;omega
 obtain⟨bx1,bx2,bx3,-⟩:=zbI w 28 28 #[.slice A n c,.int .i64 (m:Int)] #[.slice none 0 0,.int .i64 0]
 obtain⟨p0,p1⟩:=bx2.c2
 have HB:=lh9 bx1
 have HK1:=lh9 bx2
 have HK2:=lh9 bx3
 have HRM:Hid (zfS m MM=zcs (zbg m MM).p⁻¹ (zbg m MM).S):=rfl
 have hst:zeD m (zbe MM)=zbg m MM:=rfl
 obtain⟨st,hst2⟩:∃st,zbg m MM=st:=⟨_,rfl⟩
 obtain⟨RM,hRM⟩:∃RM,zfS m MM=RM:=⟨_,rfl⟩
 rw [hst2] at hst HS2 HS3 HS4 HDS HLL HRM⊢
 rw [hRM] at HRM HS1 HDR⊢
 have HST:=lh9 hst
 unfold ziW
 clear h hT z hW bx1 bx2 bx3 hst hst2 hok s1 s2 s3 s4 hRM
 go_enter Tryz.func61,Tryz.ntmps61
 go_wp2_with fail
 generalize (w.alloc (.cells #[.slice A n c,.int .i64 (m:Int)] 28)).alloc (.cells #[.slice none 0 0,.int .i64 0] 28)=W1 at*
 have hbd:=(Below.refl W1.heap.size W1).drew
 refine rg (csc p0 (csc p1 csn)) (λhHeld=>?_)
 have HB:=lh9 (zab HB.out hbd)
 have HK1:=lh9 (zaa hbd HK1.out)
 have HK2:=lh9 (zaa hbd HK2.out)
 clear p0 p1 hbd
 generalize W1.drew=D at*
 refine tk 0 ?_
 refine tk 2 ?_
 refine rc 1 (λKK hK9=>?_)
 go_simp
 refine(zbr A n c (m:Int) _).mono ?_
 rintro eo w2 ⟨rfl,hb⟩
 refine hK9.out _ _ (Cs.below hHeld hb) (λhHeld=>?_)
 have HB:=lh9 (zab HB.out hb)
 have HK1:=lh9 (zaa hb HK1.out)
 have HK2:=lh9 (zaa hb HK2.out)
 clear hK9 KK hb
 refine rc 3 (λKK hK9=>?_)
 go_simp
 (with_reducible refine(zig (HT.out _ HB.out) (HM.out _ HB.out) HZ.out (by omega)).mono ?_)
 rintro eo w3 ⟨g3,rfl,hg3,ho3,hb⟩
 refine hK9.out _ _ (Cs.below hHeld hb) (λhHeld=>?_)
 have HB:=lh9 (zab HB.out hb)
 have HK1:=lh9 (zaa hb HK1.out)
 have HK2:=lh9 (zaa hb HK2.out)
 have HR:=lh9 ho3.rows
 clear hK9 KK hb hg3 ho3
 refine rc 4 (λKK hK9=>?_)
 go_simp
 (with_reducible refine(zhP (HT.out _ HB.out) HR.out HD.out HZ.out HW.out hn (by omega) (Nat.le_refl _) hK hK0 hKp).mono ?_)
 rintro eo w4 ⟨g4,rfl,hg4,⟨A4,cA4,B4,k4,cB4,z0,z1,z2,u0,u1,u2,hes⟩,hb⟩
 rw [HST.out] at hes
 refine hK9.out _ _ (Cs.below hHeld hb) (λhHeld=>?_)
 have HB:=lh9 (zab HB.out hb)
 have HK1:=lh9 (zaa hb HK1.out)
 have HK2:=lh9 (zaa hb HK2.out)
 have HES:=lh9 hes
 clear hK9 KK hb hg4 hes HR
 refine tk 5 ?_
 refine rdn ?_
 clear hHeld
 obtain⟨p0,p1⟩:=HK1.out.c2
 go_wp2_with fail
 clear p0 p1
 refine(zbr A n c (m:Int) _).mono ?_
 rintro eo w5 ⟨rfl,hb⟩
 have HB:=lh9 (zab HB.out hb)
 have HK2:=lh9 (zaa hb HK2.out)
 have HES:=lh9 (HES.out.below hb)
 clear hb HK1
 go_wp2_with fail
 (with_reducible refine(zhj (HT.out _ HB.out) HES.out HDS.out HS4.out HS2.out HS3.out hn (by omega) (by omega)).mono ?_)
 rintro eo w6 ⟨g6,rfl,hg6,ho6,hb⟩
 rw [<-HRM.out] at ho6
 have HB:=lh9 (zab HB.out hb)
 have HK2:=lh9 (zaa hb HK2.out)
 have HES:=lh9 (HES.out.below hb)
 have HR6:=lh9 ho6.rows
 clear hb hg6 ho6
 go_wp2_with fail
 (with_reducible refine(zjz (HT.out _ HB.out) HR6.out HDR.out hn hm HS1.out (by omega)).mono ?_)
 rintro eo w7 ⟨A7,c7,rfl,hm7,-,hb⟩
 obtain⟨bx1,bx2,-⟩:=zav w7 28 #[.slice A7 n c7,.int .i64 (m:Int)]
 have hbx:=zab hb bx1
 have HK2o:=HK2
 have HB:=lh9 (zab HB.out hbx)
 have HK2:=lh9 (zaa hbx HK2.out)
 have HES:=lh9 (HES.out.below hbx)
 have HM7:=lh9 (hm7.keep bx1)
 have HK7:=lh9 bx2
 have HQ7:Hid (w.heap.size+1<w7.heap.size):=(zaa hb HK2o.out).lt
 clear hb hm7 bx1 bx2 hbx HR6 HK2o
 go_upto_region 3 with fail
 generalize w7.alloc (.cells #[.slice A7 n c7,.int .i64 (m:Int)] 28)=W8 at*
 generalize w7.heap.size=q7 at*
 obtain⟨p0,p1⟩:=HK7.out.c2
 obtain⟨-,p2,-⟩:=HES.out.cells
 have hbd:=(Below.refl W8.heap.size W8).drew
 have HNG:Hid (g4≠w.heap.size+1):=λe=>by subst e;exact absurd (zdc HES.out.blk HK2.out) (by decide)
 have HNQ:Hid (q7≠w.heap.size+1):=by have:=HQ7.out;show q7≠w.heap.size+1;omega
 refine rg (csc p0 (csc p1 (csc p2 csn))) (λhHeld=>?_)
 have HB:=lh9 (zab HB.out hbd)
 have HK2:=lh9 (zaa hbd HK2.out)
 have HES:=lh9 (HES.out.below hbd)
 have HM7:=lh9 (HM7.out.keep hbd)
 clear p0 p1 p2 hbd HK7
 generalize W8.drew=D8 at*
 refine tk 0 ?_
 refine tk 1 ?_
 refine tk 2 ?_
 refine tk 3 ?_
 refine tk 4 ?_
 obtain⟨sc0,sf0,sc1,sf1⟩:=st2 HK2.out (.slice A7 n c7)
 obtain⟨r0,r1⟩:=(sn2 HK2.out (.slice A7 n c7) (.int .i64 (m:Int))).c2
 have HBF:=lh9 (bl2 (.slice A7 n c7) (.int .i64 (m:Int)) (show w.heap.size<=w.heap.size+1 by omega) HB.out)
 have HMF:=lh9 (HM7.out.offz HK2.out (.slice A7 n c7) (.int .i64 (m:Int)))
 have HLF:=lh9 ((HES.out.lds.slot HK2.out (by decide) 0 (.slice A7 n c7)).slot (HK2.out.set_ 0 (.slice A7 n c7)) (by decide) 1 (.int .i64 (m:Int)))
 have HIF:=lh9 (HLF.out.ints HLL.out)
 have HCP:=lh9 HES.out.cap
 have HHK:=lh9 HES.out.hk
 refine rc 5 (λKK hK9=>?_)
 go_simp
 refine hK9.out _ _ (Cs.far hHeld (zgM _ _ (.slice A7 n c7) (.int .i64 (m:Int))) ⟨HNQ.out,HNQ.out,HNG.out,trivial⟩) (λhHeld=>?_)
 clear hK9 KK sc0 sf0 sc1 sf1
 refine tk 6 ?_
 refine rdn ?_
 clear hHeld HES HM7 HB HK2 HLF
 go_wp2
 refine bodyPost_ret (v:=.tuple #[.agg #[.slice A7 n c7,.int .i64 (m:Int)],.slice B4 k4 cB4]) (by simp [results,Tryz.results61,go_sem,r0,r1]) rfl ?_
 exact⟨A7,c7,B4,k4,cB4,rfl,HHK.out.symm,HMF.out,HIF.out,HCP.out.2.2.2.1,HCP.out.2.2.2.2.1,HBF.out⟩
end
def zcZ (m:Nat)(MM:List (List Rat)):Rat:=if (zbg m MM).ld.length<m then 0 else(zbg m MM).p / zbo MM
theorem zkZ:∀{M:List (List Rat)} {r:Rat},r≠0->M.foldl (λr row=>r*zaD row) r≠0
 |[],_,h=>h
 |L::M,r,h=>by
   rw [List.foldl_cons]
   refine zkZ λe=>?_
   rcases Rat.mul_eq_zero.1 e with e|e
   ·exact h e
   ·exact zls L e
theorem zjN (M:List (List Rat)):zbo M≠0:=zkZ (by decide+kernel)
section
variable {w:World}{A:oA9}{n c m K K0:Nat}{MM:List (List Rat)}
theorem zde (hT:zai w)(h:zaR w A n c m MM)(hnm:n=m)(z:zax K0 MM)(hW:zbS K MM)(hK:260*K+269<=33554432:=by omega)(hK0:K+K0<=33554432:=by omega)(hKp:0<K:=by omega):
  Calls Tryz.prog 16 #[.agg #[.slice A n c,.int .i64 (m:Int)]] w (zbD w (zcZ m MM) true):=by
 obtain⟨hn,hm⟩:=And.intro h.hn h.hm
 have HM:=lh9 (λw' (hb:Below w.heap.size w w')=>h.keep hb)
 have HT:=lh9 (λw' (hb:Below w.heap.size w w')=>hT.on hb)
 have HZ:=lh9 z
 have HW:=lh9 hW
 have HD:=lh9 h.dims
 have hok:=zcx h.dims
 obtain⟨s1,s2,s3,s4⟩:=zhw h.dims hn hW
 have HS2:=lh9 s2
 have HS3:=lh9 s3
 have HRQ:Hid (SzQ (1+64*K) (zbo MM)):=by
  have:=zgg hW MM.length (Nat.le_refl _)
  rw [List.take_length] at this
  exact(this.up (Nat.add_le_add_left (Nat.mul_le_mul_right _ (by rw [h.dims.rows];omega)) _)).szq (by omega)
 have HRN:=lh9 (zjN MM)
 obtain⟨bx1,bx2,bx3,-⟩:=zbI w 28 41 #[.slice A n c,.int .i64 (m:Int)] #[.bool false,.slice none 0 0,.slice none 0 0]
 obtain⟨p0,p1⟩:=bx2.c2
 have HB:=lh9 bx1
 have HK1:=lh9 bx2
 have HK2:=lh9 bx3
 have hst:zeD m (zbe MM)=zbg m MM:=rfl
 have HDE:Hid (zcZ m MM=if (zbg m MM).ld.length<m then 0 else(zbg m MM).p / zbo MM):=rfl
 obtain⟨st,hst2⟩:∃st,zbg m MM=st:=⟨_,rfl⟩
 rw [hst2] at hst HS2 HS3 HDE
 have HST:=lh9 hst
 have d1:((n:Int) !=(m:Int))=false:=by rw [hnm];simp
 have HNM:=lh9 hnm
 clear h hT z hW bx1 bx2 bx3 hst hst2 hok s1 s2 s3 s4 hnm
 go_enter Tryz.func16,Tryz.ntmps16
 go_wp2_with fail
 generalize (w.alloc (.cells #[.slice A n c,.int .i64 (m:Int)] 28)).alloc (.cells #[.bool false,.slice none 0 0,.slice none 0 0] 41)=W1 at*
 have hbd:=(Below.refl W1.heap.size W1).drew
 refine rg (csc p0 (csc p1 csn)) (λhHeld=>?_)
 have HB:=lh9 (zab HB.out hbd)
 have HK1:=lh9 (zaa hbd HK1.out)
 have HK2:=lh9 (zaa hbd HK2.out)
 clear p0 p1 hbd
 generalize W1.drew=D at*
 refine tk 0 ?_
 refine tk 2 ?_
 refine rc 1 (λKK hK9=>?_)
 go_simp
 refine(zbd A n c (m:Int) _).mono ?_
 rintro eo w2 ⟨rfl,hb⟩
 refine hK9.out _ _ (Cs.below hHeld hb) (λhHeld=>?_)
 have HB:=lh9 (zab HB.out hb)
 have HK1:=lh9 (zaa hb HK1.out)
 have HK2:=lh9 (zaa hb HK2.out)
 clear hK9 KK hb
 refine rc 3 (λKK hK9=>?_)
 go_simp
 refine(zbr A n c (m:Int) _).mono ?_
 rintro eo w3 ⟨rfl,hb⟩
 refine hK9.out _ _ (Cs.below hHeld hb) (λhHeld=>?_)
 have HB:=lh9 (zab HB.out hb)
 have HK1:=lh9 (zaa hb HK1.out)
 have HK2:=lh9 (zaa hb HK2.out)
 clear hK9 KK hb
 refine tk 4 ?_
 refine rdn ?_
 clear hHeld
 go_upto_region 3 with fail
 have hbd:=(Below.refl w3.heap.size w3).drew
 obtain⟨p0,p1⟩:=HK1.out.c2
 refine rg (csc p0 (csc p1 csn)) (λhHeld=>?_)
 have HB:=lh9 (zab HB.out hbd)
 have HK1:=lh9 (zaa hbd HK1.out)
 have HK2:=lh9 (zaa hbd HK2.out)
 clear p0 p1 hbd
 generalize w3.drew=D3 at*
 refine tk 0 ?_
 refine tk 2 ?_
 refine rc 1 (λKK hK9=>?_)
 go_simp
 refine(zbr A n c (m:Int) _).mono ?_
 rintro eo w2 ⟨rfl,hb⟩
 refine hK9.out _ _ (Cs.below hHeld hb) (λhHeld=>?_)
 have HB:=lh9 (zab HB.out hb)
 have HK1:=lh9 (zaa hb HK1.out)
 have HK2:=lh9 (zaa hb HK2.out)
 clear hK9 KK hb
 refine rc 3 (λKK hK9=>?_)
 go_simp
 (with_reducible refine(zig (HT.out _ HB.out) (HM.out _ HB.out) HZ.out (by omega)).mono ?_)
 rintro eo w3 ⟨g3,rfl,hg3,ho3,hb⟩
 refine hK9.out _ _ (Cs.below hHeld hb) (λhHeld=>?_)
 have HB:=lh9 (zab HB.out hb)
 have HK1:=lh9 (zaa hb HK1.out)
 have HK2:=lh9 (zaa hb HK2.out)
 have HR:=lh9 ho3.rows
 clear hK9 KK hb hg3 ho3
 refine rc 4 (λKK hK9=>?_)
 go_simp
 (with_reducible refine(zhP (HT.out _ HB.out) HR.out HD.out HZ.out HW.out hn (by omega) (Nat.le_refl _) hK hK0 hKp).mono ?_)
 rintro eo w4 ⟨g4,rfl,hg4,⟨A4,cA4,B4,k4,cB4,z0,z1,z2,u0,u1,u2,hes⟩,hb⟩
 rw [HST.out] at hes
 refine hK9.out _ _ (Cs.below hHeld hb) (λhHeld=>?_)
 have HB:=lh9 (zab HB.out hb)
 have HK1:=lh9 (zaa hb HK1.out)
 have HK2:=lh9 (zaa hb HK2.out)
 have HES:=lh9 hes
 clear hK9 KK hb hg4 hes HR
 refine tk 5 ?_
 refine rdn ?_
 clear hHeld
 go_upto_region 4 with fail
 have hbd:=(Below.refl w4.heap.size w4).drew
 obtain⟨p0,p1⟩:=HK1.out.c2
 obtain⟨-,p2,-⟩:=HES.out.cells
 refine rg (csc p0 (csc p1 (csc p2 csn))) (λhHeld=>?_)
 have HB:=lh9 (zab HB.out hbd)
 have HES:=lh9 (HES.out.below hbd)
 have HK2:=lh9 (zaa hbd HK2.out)
 clear p0 p1 p2 hbd HK1
 generalize w4.drew=D4 at*
 refine tk 0 ?_
 refine tk 1 ?_
 refine tk 2 ?_
 refine tk 3 ?_
 refine tk 4 ?_
 refine tk 5 ?_
 refine rc 6 (λKK hK9=>?_)
 go_simp
 refine(zbd A n c (m:Int) _).mono ?_
 rintro eo w5 ⟨rfl,hb⟩
 refine hK9.out _ _ (Cs.below hHeld hb) (λhHeld=>?_)
 have HB:=lh9 (zab HB.out hb)
 have HES:=lh9 (HES.out.below hb)
 have HK2:=lh9 (zaa hb HK2.out)
 clear hK9 KK hb
 refine tk 7 ?_
 refine rdn ?_
 clear hHeld
 have HHK:=lh9 HES.out.hk
 by_cases hlt:k4<n
 ·have d2:decide ((k4:Int)<(n:Int))=true:=decide_eq_true (by omega)
  have hde:zcZ m MM=0:=by rw [HDE.out,HHK.out,if_pos (by have:=HNM.out;omega)]
  have HD9:=lh9 hde
  obtain⟨sc0,sf0,sc1,sf1,sc2,sf2⟩:=st3 HK2.out (.bool false) (.slice none 0 0)
  obtain⟨r0,r1,r2⟩:=(sn3 HK2.out (.bool false) (.slice none 0 0) (.slice none 0 0)).c3
  have HBF:=lh9 (bl3 (.bool false) (.slice none 0 0) (.slice none 0 0) (show w.heap.size<=w.heap.size+1 by omega) HB.out)
  have HGF:=lh9 (zgO (((w5.setCell ⟨w.heap.size+1,0,none⟩ (.bool false)).setCell ⟨w.heap.size+1,1,none⟩ (.slice none 0 0)).setCell ⟨w.heap.size+1,2,none⟩ (.slice none 0 0)))
  clear HB HK2 HES hde
  go_wp2
  refine bodyPost_ret (v:=.tuple #[.agg #[.bool false,.slice none 0 0,.slice none 0 0],.bool true]) (by simp [results,Tryz.results16,go_sem,r0,r1,r2]) rfl ?_
  exact⟨_,_,_,_,_,_,_,rfl,by rw [HD9.out];exact HGF.out,HBF.out⟩
 ·have d2:decide ((k4:Int)<(n:Int))=false:=decide_eq_false (by omega)
  have hde:zcZ m MM=st.p / zbo MM:=by rw [HDE.out,HHK.out,if_neg (by have:=HNM.out;omega)]
  have HD9:=lh9 hde
  clear hde
  obtain⟨b6,A6,n6,c6,E6,k6,f6,rfl,rfl,rfl,hr6⟩:=HES.out.lead
  obtain⟨b7,A7,n7,c7,E7,k7,f7,rfl,rfl,rfl,hr7⟩:=HES.out.rsd
  have HNG:Hid (g4≠w.heap.size+1):=λe=>by subst e;exact absurd (zdc HES.out.blk HK2.out) (by decide)
  go_upto_region 6 with fail
  have hbd:=(Below.refl w5.heap.size w5).drew
  obtain⟨-,-,p2,p3,p4,p5,p6,p7⟩:=HES.out.cells
  refine rg (csc p2 (csc p3 (csc p4 (csc p5 (csc p6 (csc p7 csn)))))) (λhHeld=>?_)
  have HB:=lh9 (zab HB.out hbd)
  have HK2:=lh9 (zaa hbd HK2.out)
  have HR6:=lh9 (hr6.below hbd)
  have HR7:=lh9 (hr7.below hbd)
  clear p2 p3 p4 p5 p6 p7 hbd hr6 hr7 HES
  generalize w5.drew=D5 at*
  refine tk 0 ?_
  refine tk 1 ?_
  refine tk 2 ?_
  refine tk 3 ?_
  refine tk 4 ?_
  refine tk 5 ?_
  refine tk 6 ?_
  refine tk 7 ?_
  refine rc 8 (λKK hK9=>?_)
  go_simp
  (with_reducible refine(zhv st.p (zbo MM) b6 A6 n6 c6 E6 k6 f6 b7 A7 n7 c7 E7 k7 f7 _ (HT.out _ HB.out) HR6.out HR7.out (HS2.out.fit HR6.out (by omega)) (HRQ.out.fit HR7.out (by omega)) HRN.out).mono ?_)
  rintro eo w6 ⟨b8,A8,n8,c8,E8,k8,f8,rfl,hw8,hb⟩
  refine hK9.out _ _ (Cs.below hHeld hb) (λhHeld=>?_)
  have HB:=lh9 (zab HB.out hb)
  have HK2:=lh9 (zaa hb HK2.out)
  have HR8:=lh9 hw8
  clear hK9 KK hb hw8 HR6 HR7
  refine tk 9 ?_
  refine tk 10 ?_
  obtain⟨sc0,sf0,sc1,sf1,sc2,sf2⟩:=st3 HK2.out (.bool b8) (.slice A8 n8 c8)
  obtain⟨r0,r1,r2⟩:=(sn3 HK2.out (.bool b8) (.slice A8 n8 c8) (.slice E8 k8 f8)).c3
  have HG:=lh9 (gb3 true HR8.out HK2.out HB.out (show w.heap.size<=w.heap.size+1 by omega))
  refine rc 11 (λKK hK9=>?_)
  go_simp
  refine hK9.out _ _ (Cs.far hHeld (zef _ _ (.bool b8) (.slice A8 n8 c8) (.slice E8 k8 f8)) ⟨HNG.out,HNG.out,HNG.out,HNG.out,HNG.out,HNG.out,trivial⟩) (λhHeld=>?_)
  clear hK9 KK sc0 sf0 sc1 sf1 sc2 sf2
  refine tk 12 ?_
  refine rdn ?_
  clear hHeld HB HK2 HR8
  go_wp2
  refine bodyPost_ret (v:=.tuple #[.agg #[.bool b8,.slice A8 n8 c8,.slice E8 k8 f8],.bool true]) (by simp [results,Tryz.results16,go_sem,r0,r1,r2]) rfl ?_
  rw [HD9.out]
  exact HG.out
end
section
variable {w:World}
theorem zos {A:oA9}{n c:Nat}{zs:List Int}{z:Int}(h:zdk w A n zs)(hn:n<=1048576):
  Calls Tryz.prog 153 #[.slice A n c,.int .i64 z] w (λeo w'=>∃k:Int,eo=.returned (.int .i64 k)/\decide (k>=0)=decide (z ∈ zs)/\Below w.heap.size w w'):=by
 have HI:=lh9 h
 have i0:(0:Int)<=(n:Int):=by omega
 have hB:=Below.refl w.heap.size w
 have HY:Hid (∀k,k<n->zs.getD k 0=z->decide (z ∈ zs)=true):=λk hk e=>decide_eq_true (by
  rw [<-e,List.getD_eq_getElem?_getD,List.getElem?_eq_getElem (by have:=h.len;omega)]
  exact List.getElem_mem _)
 have HN:Hid ((∀j,j<n->zs.getD j 0≠z)->decide (z ∈ zs)=false):=λh0=>decide_eq_false (λhm=>by
  obtain⟨j,hj,e⟩:=List.mem_iff_getElem.1 hm
  refine h0 j (by rw [<-h.len];exact hj) ?_
  rw [List.getD_eq_getElem?_getD,List.getElem?_eq_getElem hj];exact e)
 obtain⟨b,hb⟩:∃b,decide (z ∈ zs)=b:=⟨_,rfl⟩
 rw [hb] at HY HN⊢
 clear h hb
 go_enter Tryz.func153,Tryz.ntmps153
 go_wp2_with fail
 go_loopg [8] (n+1) (λg ix wr=>∃(k:Nat),k<=n/\n<g+k/\ix=.int .i64 k/\Hid (∀j,j<k->zs.getD j 0≠z)/\Below w.heap.size w wr)
 case atStart=>exact⟨0,Nat.zero_le _,by omega,rfl,λj hj=>(by cases hj),hB⟩
 case round=>
  clear hB
  obtain⟨k,hkn,hg,rfl,hz0,hB⟩:=hrel
  by_cases hlt:k<n
  ·have hd1:decide ((k:Int)<(n:Int))=true:=decide_eq_true (by omega)
   have i1:(0:Int)<=(k:Int):=by omega
   have i2:(k:Int)<(n:Int):=by omega
   obtain⟨ad,rfl,hc⟩:=HI.out.num k hlt
   have hc0:=zac hB hc
   have HSU:Hid (zs.getD k 0≠z->∀j,j<k+1->zs.getD j 0≠z):=λe j hj=>by
    rcases Nat.lt_or_ge j k with a|a
    ·exact hz0.out j a
    ·rw [show j=k by omega];exact e
   have HYK:=lh9 (HY.out k hlt)
   have HB:=lh9 hB
   obtain⟨x,hx⟩:∃x,zs.getD k 0=x:=⟨_,rfl⟩
   rw [hx] at hc0 HSU HYK
   clear hB hc hx
   by_cases hxz:x=z
   ·have d2:(z==x)=true:=by rw [hxz];simp
    have HE:=lh9 (HYK.out hxz)
    clear HSU HYK hxz
    go_wp2
    go_ret
    exact⟨(k:Int),rfl,by rw [HE.out];exact decide_eq_true (by omega),HB.out⟩
   ·have d2:(z==x)=false:=by rw [beq_eq_false_iff_ne];exact λe=>hxz e.symm
    have HS2:=lh9 (HSU.out hxz)
    clear HSU HYK hxz
    go_wp2
    go_roundg (n - k)
    case measure=>omega
    case rel=>exact⟨k+1,by omega,by omega,by go_num,HS2.out,HB.out⟩
  ·have hk9:k=n:=by omega
   subst hk9
   have hd1:decide ((k:Int)<(k:Int))=false:=by simp
   have HE:=lh9 (HN.out hz0.out)
   have HB:=lh9 hB
   clear hB
   go_wp2
   go_ret
   exact⟨-1,rfl,by rw [HE.out];rfl,HB.out⟩
theorem zdx {A:oA9}{n c:Nat}{zs:List Int}{z:Int}{b:Bool}(e:decide (z ∈ zs)=b)(h:zdk w A n zs)(hn:n<=1048576):
  Calls Tryz.prog 87 #[.slice A n c,.int .i64 z] w (λeo w'=>eo=.returned (.bool b)/\Below w.heap.size w w'):=by
 have H:=lh9 (zos (c:=c) (z:=z) h hn)
 rw [e] at H
 clear h e
 go_enter Tryz.func87,Tryz.ntmps87
 go_wp2_with fail
 refine H.out.mono ?_
 rintro eo w1 ⟨k,rfl,hk,hb⟩
 have hk2:decide (0<=k)=b:=hk
 have HB:=lh9 hb
 clear hb
 go_wp2
 go_ret
 exact⟨rfl,HB.out⟩
end
theorem zbG {zs:List Int}(h:∀z ∈ zs,-9223372036854775808<=z/\z<=9223372036854775807):zau 1 (ofL zs):=λx hx=>by
 obtain⟨z,hz,rfl⟩:=List.mem_map.1 hx
 exact SzQ.whole (zhA (h z hz).1 (h z hz).2) (by decide)
theorem zcn (zs:List Int)(n:Nat)(hn:zs.length=n){w:World}{g:Nat}{t:TypeId}(h:Blk w g t (zs.map (Value.int .i64)).toArray)(hz:∀z ∈ zs,-9223372036854775808<=z/\z<=9223372036854775807):zdk w (some ⟨g,0,none⟩) n zs:=by
 subst hn
 exact⟨rfl,λi hi=>by
  rw [List.getD_eq_getElem?_getD,List.getElem?_eq_getElem hi]
  exact hz _ (List.getElem_mem hi),λi hi=>⟨_,rfl,by
  rw [zaP,h.cell,List.getD_eq_getElem?_getD,List.getElem?_eq_getElem hi]
  simp [hi]⟩⟩
theorem qc10:RatC zai (λ_=>False):=ratC (λ_ h=>h) (λh=>h.elim) (λh=>h.elim) (λh=>h.elim)
theorem zbS.up {K K':Nat}{M:List (List Rat)}(h:zbS K M)(e:K<=K'):zbS K' M:=⟨λrow hr=>(h.q row hr).up e,λrow hr x hx=>(h.x row hr x hx).up e⟩
theorem zjX {r:Rat}{M:List (List Rat)}(i j:Nat):atM (zcs r M) i j=r*atM M i j:=by
 unfold atM zcs
 rw [List.getD_eq_getElem?_getD (l:=List.map _ _),List.getD_eq_getElem?_getD (l:=M),List.getElem?_map]
 cases M[i]? with
 |none=>exact(Rat.mul_zero r).symm
 |some row=>exact zeI j
theorem red_rf {n m:Nat}{M:List (List Rat)}(h:zaN M n m):RF n m (atM M) (zbg m M).ld (atM (zfS m M)):=by
 have e:atM (zfS m M)=λi j=>(zbg m M).p⁻¹*atM (zbg m M).S i j:=by
  funext i j;exact zjX i j
 rw [e]
 refine RF.of_elim (zcx h) λi hi=>⟨zaD (M.getD i []),zfY (by decide+kernel),λj hj=>zeO h hi j⟩
theorem RF.congr {n m:Nat}{M M' R:Nat->Nat->Rat}{ld:List Nat}(h:RF n m M ld R)(e:∀i,i<n->∀j,j<m->M i j=M' i j):RF n m M' ld R:=
 ⟨h.len,h.up,h.lt,h.piv,h.zero,h.fore,λi hi j hj=>by
  rw [<-e i hi j hj,h.sum i hi j hj]
  exact zan λl hl=>by rw [e i hi _ (h.lt l hl)],λl hl=>by
  obtain⟨y,hy⟩:=h.span l hl
  exact⟨y,λj hj=>(hy j hj).trans (zan λi hi=>by rw [e i hi j hj])⟩⟩
theorem zbf.below {W W':World}{A:oA9}{n c:Nat}{R:zja}(h:zbf W A n c R)(hb:Below W.heap.size W W'):zbf W' A n c R:=⟨h.fits,h.small,λr hr=>by
 obtain⟨ad,e,h1,h2,h3⟩:=h.row r hr
 exact⟨ad,e,Nat.lt_of_lt_of_le h1 hb.size,zac hb h2,h3.below hb⟩⟩
