/- What this claim leans on. -/
import Derived.Test.YtipmllfnpldbdaaGreatDoorYMMul
set_option linter.unusedVariables false
set_option linter.unusedSimpArgs false
namespace Go.Proofs.YtipmllfnpldbdaaGreatDoor
open Go Go.RowKit Go.Proofs.Tryz
set_option maxHeartbeats 16000000
set_option maxRecDepth 100000
set_option maxHeartbeats 4000000
def rk (A:List (List Rat))(m k:Nat)(s:Int):Rat:=if xp s m=true then vF A k s.toNat else 0
def vq (S:SD)(m:Nat)(rest z0:List Rat):Nat->List Rat
 |0=>z0
 |j+1=>if rk S.A m j (S.left.getD j 0)=0 then vq S m rest z0 j else(vq S m rest z0 j).set (S.left.getD j 0).toNat (rest.getD j 0 / rk S.A m j (S.left.getD j 0))
def vI (S:SD)(z0:List Rat):List Rat:=nG S.B (uf S.A z0)
def tN (S:SD)(m:Nat)(xs:List Rat):List Rat:=xs++List.replicate (m - S.own) 0
def kq (S:SD)(m:Nat)(xs:List Rat):List Rat:=vq S m (vI S (tN S m xs)) (tN S m xs) S.left.length
theorem eE (S:SD)(m:Nat)(rest z0:List Rat)(j:Nat):(vq S m rest z0 j).length=z0.length:=by
 induction j with
 |zero=>rfl
 |succ j ih=>rw [vq];split<;>simp [ih]
theorem WH {K K' n m:Nat}{M:List (List Rat)}{xs:List Rat}(z:wO K M)(hd:wW M n m)(hx:xs.length=m)(zx:zI K' xs):zI (1+m*(K+K'+1)) (uf M xs):=λx a=>by
 unfold uf at a;obtain⟨L,hL,rfl⟩:=List.mem_map.1 a;exact fk (hd.cols L hL) hx (z L hL) zx
def gG (w:World)(n:Nat)(xs:List Rat)(e:Ending)(w':World):Prop:=∃(g c:Nat),e=.returned (.tuple #[.slice (some ⟨g,0,none⟩) n c,.bool true])/\w.heap.size<=g/\zF w' (some ⟨g,0,none⟩) n c xs/\yv w' g 60/\Below w.heap.size w w'
section
variable {A:zf}{n c m:Nat}{B:zf}{cB:Nat}{C:zf}{cC:Nat}{L:zf}{cL:Nat}{S:SD}{X:zf}{nx cx:Nat}{xs:List Rat}{w:World}{K K':Nat}
theorem WV {k:Nat}{s:Int}(hT:zv w)(h:xo w A n c m S.A)(z:wO K S.A)(hk:k<n)(hK:K+2<=67108864:=by omega):
  Calls prog 17 #[.agg #[.slice A n c,.int .i64 (m:Int)],.int .i64 (k:Int),.int .i64 s] w (ye w (rk S.A m k s)):=by
 unfold rk;by_cases e:xp s m=true
 ·rw [if_pos e];obtain⟨j,rfl,hj⟩:=iY e;rw [Int.toNat_natCast];exact tV hT h z hk hj hK
 ·rw [if_neg e];exact Ui (Or.inr (by simpa using e))
theorem VD (hT:zv w)(h:oe w A n c m B cB C cC L S)(hx:zF w X nx cx xs)(he:nx=S.own)(ho:S.own<=m)(zA:wO K S.A)(zB:zI K S.B)(zx:zI K' xs)(hKx:0<K':=by omega)(hS:2*K+m*(K+K'+1)+K'+8<=67108864:=by omega):
  Calls prog 32 #[.agg #[.slice A n c,.int .i64 (m:Int),.slice B n cB,.slice C m cC,.int .i64 (S.own:Int),.slice L n cL],.slice X nx cx] w (gG w m (kq S m xs)):=by
 have hm:=h.mat.hm;have hn:=h.mat.hn;have cl:=hx.len;have bn:=h.left.len;obtain⟨bg,aw,bz⟩:=zG w 35 #[.slice A n c,.int .i64 (m:Int),.slice B n cB,.slice C m cC,.int .i64 (S.own:Int),.slice L n cL];obtain⟨s0,s1,s2,s3,s4,s5⟩:=aw.c6;obtain⟨d,hd⟩:∃d,m - S.own=d:=⟨_,rfl⟩;have hw:IntKind.i64.wrap ((m:Int) - (S.own:Int))=(d:Int):=by rw [IntKind.wrap_i64];omega
 have HC:=λW=>zd (tW A n c (m:Int) W);have HN:=λW=>zd (Vr d W za);have e0:((nx:Int) !=(S.own:Int))=false:=by simp [he]
 have HB:=zd bg;have HK:=zd aw;obtain⟨z0,aa⟩:∃z,xs++List.replicate d 0=z:=⟨_,rfl⟩;have bo:z0.length=m:=by rw [<-aa,qA,QE];omega
 have zz:zI K' z0:=λx hx=>by
  rw [<-aa] at hx;rcases List.mem_append.1 hx with h2|h2
  ·exact zx x h2
  ·rw [List.eq_of_mem_replicate h2];exact zt.zero.up za
 obtain⟨rest,G⟩:∃r,vI S z0=r:=⟨_,rfl⟩;have hL:zg (kq S m xs=vq S m rest z0 n):=by
  show _=_;unfold kq tN;rw [hd,aa,G,bn]
 have HM:=zd (λW (hb:Below w.heap.size w W)=>h.mat.keep hb);have ce:=zd (λW (hb:Below w.heap.size w W)=>h.b.keep hb);have cb:=zd (λW (hb:Below w.heap.size w W)=>h.left.keepP hb);have HT:=zd (λW (hb:Below w.heap.size w W)=>hT.on hb);have ae:=zd zA;have be:=zd zB;have bf:=zd zz;have a4:=zd (λW (hb:Below w.heap.size w W)=>iS (K:=K') (hT.on hb) (hx.keep hb) zx);have ca:=zd aa;have bb:=zd G;have y:zg (1+m*(K+K'+1)<=67108864/\K+(1+m*(K+K'+1))+1+K+2<=67108864/\K'<=67108864):=by
  show _/\_/\_;omega
 have ad:=zd bo;have a5:=zd h.mat.dims;have b9:zg (nx+d=m):=by show _=_;omega
 have hnx:nx<=64:=za;have hdx:d<=64:=za;clear h hx hT he bg aw bz hd zA zB zx zz cl bn aa G hS bo ho;go_enter func32,ntmps32;go_upto_region 1 with fail;generalize w.alloc (.cells #[.slice A n c,.int .i64 (m:Int),.slice B n cB,.slice C m cC,.int .i64 (S.own:Int),.slice L n cL] 35)=W1 at*;have a:=zd ((qY W1.heap.size W1).drew);refine rg (zk s0 (zk s1 (zk s4 zQ))) (λhHeld=>?_);clear s0 s1 s2 s3 s4 s5;generalize W1.drew=D1 at*;refine tk 0 ?_;refine tk 1 ?_;refine tk 3 ?_;refine tk 4 ?_;refine rc 2 (λKK hK=>?_);go_simp;(with_reducible refine(HC _).o.mono ?_);rintro e X1 ⟨rfl,hb⟩;refine hK.out _ _ (Cs.below hHeld hb) (λhHeld=>?_);have a:=zd (ze a.o hb);clear hK KK hb;refine tk 5 ?_;refine rc 6 (λKK hK=>?_);go_simp;(with_reducible refine(HN _).o.mono ?_);rintro e X2 ⟨gN,rfl,ci,bq,hb⟩;refine hK.out _ _ (Cs.below hHeld hb) (λhHeld=>?_);have a:=zd (ze a.o hb);have a9:=zd bq;clear hK KK hb bq ci;refine tk 7 ?_;refine tk 8 ?_;refine tk 9 ?_;refine tk 10 ?_;refine tk 11 ?_;refine z8 ?_;have v:=zd (ze HB.o a.o);have E:=zd (zj a.o HK.o);obtain⟨s0,s1,s2,s3,s4,s5⟩:=E.o.c6;clear hHeld HC HN a HB HK hw;go_wp2_with fail;(with_reducible refine(a4.o _ v.o).mono ?_);rintro e X3 ⟨gz,rfl,ck,bu,hb⟩;obtain⟨gZ,cZ,X4,ax,bw,bj,ah,af,ay⟩:=Y6 bu (wg (a9.o.keep hb) za);rw [ca.o] at af;rw [b9.o] at ax bj af;have a6:zg (w.heap.size<=gZ):=by
  have h1:=v.o.size;have h2:=hb.size;show _<=_;rcases bw with h3|h3<;>omega
 have Q:=zd (ze v.o (ze hb ay));have R:=zd (zj (ze hb ay) E.o);have D:=zd af;have bi:=ah;clear hb ay af bu ck bw v E a4 a9 ah s0 s1 s2 s3 s4 s5;obtain⟨s0,s1,s2,s3,s4,s5⟩:=R.o.c6;go_wp2_with (at_builtin;refine cK rfl (.tmp 35) (.tmp 36) 32 32 rfl rfl rfl ax ?_);clear ax;have al:=D.o.head ad.o bi;refine(Uj (HT.o _ Q.o) (HM.o _ Q.o) al ae.o bf.o (by have:=y.o.2.1;omega) y.o.2.2 y.o.1).mono ?_;rintro e X5 ⟨gs,rfl,cj,bt,hb⟩;have ab:=zd (ze Q.o hb);have am:=zd (zj hb R.o);have V:=zd (D.o.keep hb);have av:zg (zI (1+m*(K+K'+1)) (uf S.A z0)):=WH ae.o a5.o ad.o bf.o;have bc:=zd (pQ (HT.o _ ab.o) (ce.o _ ab.o) (wg bt za) be.o av.o za (by have:=y.o.2.1;omega) (by have:=y.o.1;omega));clear hb cj bt al Q R D s0 s1 s2 s3 s4 s5;obtain⟨s0,s1,s2,s3,s4,s5⟩:=am.o.c6;go_wp2_with fail;refine bc.o.mono ?_;rintro e X6 ⟨gR,rfl,bk,br,hb⟩;have bh:=ze ab.o hb;have an:=zd (zj hb am.o);have ag:=zd (V.o.keep hb);have a8:zg (gR≠gZ):=Nat.ne_of_gt (qJ V.o.lt bk);have bs:yk X6 gR n rest:=by
  have h1:=bb.o;unfold vI at h1;rw [<-h1];exact br
 have F:=zd bs;have cf:zg (zI (K+(1+m*(K+K'+1))+1) rest):=by
  have h1:=bb.o;unfold vI at h1;show zI _ _;rw [<-h1];exact zI.sub be.o av.o
 clear hb bk br bs ab am V bc av s0 s1 s2 s3 s4 s5;obtain⟨s0,s1,s2,s3,s4,s5⟩:=an.o.c6;go_wp2_with fail;clear s0 s1 s2 s3 s4 s5
 go_loopg [57] (n+1) (λg ix wr=>∃(j:Nat),j<=n/\n<g+j/\ix=.int .i64 j/\Below w.heap.size w wr/\zg (yk wr gZ cZ (vq S m rest z0 j++List.replicate (cZ - m) 0))/\zg (yk wr gR n rest)/\zg (zi wr w.heap.size 35 #[.slice A n c,.int .i64 (m:Int),.slice B n cB,.slice C m cC,.int .i64 (S.own:Int),.slice L n cL]))
 case atStart=>exact⟨0,xQ _,za,rfl,bh,ag,F,an⟩
 case round=>
  clear bh ag F an;obtain⟨j,hjn,hg,rfl,hB,D,F,HK⟩:=hrel;by_cases hlt:j<n
  ·obtain⟨adL,rfl,cg⟩:=(cb.o _ hB).num j hlt;have ch:decide ((j:Int)<(n:Int))=true:=decide_eq_true za;have i1:(0:Int)<=(j:Int):=za;have i2:(j:Int)<(n:Int):=za;have a1:vq S m rest z0 (j+1)=if rk S.A m j (S.left.getD j 0)=0 then vq S m rest z0 j else(vq S m rest z0 j).set (S.left.getD j 0).toNat (rest.getD j 0 / rk S.A m j (S.left.getD j 0)):=rfl
   have ai:=eE S m rest z0 j;obtain⟨s,hs⟩:∃s,S.left.getD j 0=s:=⟨_,rfl⟩;rw [hs] at a1 cg;have a2:=zd (λW (hb:Below w.heap.size w W)=>WV (k:=j) (s:=s) (hT:=HT.o _ hb) (HM.o _ hb) ae.o hlt (by have:=y.o.2.1;omega));obtain⟨y0,y1,y2,y3,y4,y5⟩:=HK.o.c6;have aq:zg (zt (K+1) (rk S.A m j s)):=by
    show zt _ _;unfold rk
    split
    ·obtain⟨l,rfl,hl⟩:=iY (by assumption);rw [Int.toNat_natCast];exact(ae.o.at_ a5.o hlt hl).up za
    ·exact zt.zero.up za
   have a7:zg (rk S.A m j s≠0->∃l:Nat,s=l/\l<m):=λh=>by
    unfold rk at h
    split at h
    ·exact iY (by assumption)
    ·exact absurd rfl h
   have ar:=zd a1;have cc:=zd ai;have HB:=zd hB;clear hs a1 hB ai;generalize rk S.A m j s=q at*;go_wp2_with fail;refine(a2.o _ HB.o).mono ?_;rintro e X1 ⟨b3,A3,n3,c3,E3,k3,f3,rfl,b7,hb⟩;obtain⟨st,d3,d4⟩:=zG X1 60 #[.bool b3,.slice A3 n3 c3,.slice E3 k3 f3];obtain⟨p0,p1,p2⟩:=d3.c3;have i:=ze hb st;have P:=zd (ze HB.o i);have ac:=zd (zj i HK.o);have I:=zd (D.o.keep i);have H:=zd (F.o.keep i);have HQ:=zd (b7.below st);have T:=zd d3;have U:zg (gZ<X1.heap.size/\gR<X1.heap.size):=⟨(D.o.keep hb).lt,(F.o.keep hb).lt⟩;clear hb st d3 d4 i b7 HB HK D F a2 y0 y1 y2 y3 y4 y5;by_cases hq0:q=0
   ·have HE:zg (vq S m rest z0 (j+1)=vq S m rest z0 j):=by
     show _=_;rw [ar.o,if_pos hq0]
    have Y:=zd (ff (t:=true) (by rw [hq0];decide) (HT.o _ P.o) HQ.o aq.o (by have:=y.o.2.1;omega));clear hq0;go_wp2_with fail;refine Y.o.mono ?_;rintro e X2 ⟨rfl,hb⟩;have v:=zd (ze P.o hb);have E:=zd (zj hb ac.o);have J:zg (yk X2 gZ cZ (vq S m rest z0 (j+1)++List.replicate (cZ - m) 0)):=by
     rw [HE.o];exact I.o.keep hb
    have u:=zd (H.o.keep hb);clear hb p0 p1 p2 P ac I H Y HQ T HE;go_wp2;go_roundg (n - j)
    case measure=>omega
    case rel=>exact⟨j+1,za,za,by go_num,v.o,J,u,E⟩
   ·obtain⟨l,rfl,hl⟩:=a7.o hq0;have Y:=zd (ff (t:=false) (by rw [decide_eq_false hq0]) (HT.o _ P.o) HQ.o aq.o (by have:=y.o.2.1;omega));have cd:=zd hq0;have HE:zg (vq S m rest z0 (j+1)=(vq S m rest z0 j).set l (rest.getD j 0 / q)):=by
     show _=_;rw [ar.o,if_neg hq0,Int.toNat_natCast]
    have i3:(0:Int)<=(l:Int):=za;have i4:(l:Int)<(m:Int):=za;clear hq0 ar a7;go_wp2_with fail;refine Y.o.mono ?_;rintro e X2 ⟨rfl,hb⟩;have v:=zd (ze P.o hb);have E:=zd (zj hb ac.o);have J:=zd (I.o.keep hb);have u:=zd (H.o.keep hb);have au:=zd (zj hb T.o);have ao:=zd (HQ.o.below hb);clear hb p0 p1 p2 P ac I H Y HQ T;go_upto_region 14 with fail;obtain⟨p0,p1,p2⟩:=au.o.c3;obtain⟨b4,B4,m4,d4,F4,u4,v4,r0,r1,r2,bx⟩:=u.o.num j _ (nV (d:=0) (by rw [u.o.len];exact hlt));have ap:=zd bx;have a:=zd ((qY X2.heap.size X2).drew);refine rg (zk r0 (zk r1 (zk r2 (zk p0 (zk p1 (zk p2 zQ)))))) (λhHeld=>?_);clear r0 r1 r2 p0 p1 p2 bx;generalize X2.drew=D1 at*;refine tk 0 ?_;refine tk 1 ?_;refine tk 2 ?_;refine tk 3 ?_;refine tk 4 ?_;refine tk 5 ?_;refine tk 6 ?_;refine rc 7 (λKK hK=>?_);go_simp;have ak:zt (K+(1+m*(K+K'+1))+1) (rest.getD j 0):=cf.o.at_ (by rw [u.o.len];exact hlt);(with_reducible refine(px (rest.getD j 0) q b4 B4 m4 d4 F4 u4 v4 b3 A3 n3 c3 E3 k3 f3 _ (HT.o _ (ze v.o a.o)) (ap.o.below a.o) (ao.o.below a.o) (ak.fit ap.o (by have:=y.o.2.1;omega)) (aq.o.fit ao.o (by have:=y.o.2.1;omega)) cd.o).mono ?_);rintro e X3 ⟨b5,A5,n5,c5,E5,k5,f5,rfl,b8,hb⟩;refine hK.out _ _ (Cs.below hHeld hb) (λhHeld=>?_);have i:=ze a.o hb;have a3:=zd (ze v.o i);have az:=zj i E.o;have O:=J.o.keep i;have aj:=u.o.keep i;have b1:=zj i au.o;clear hK KK hb i ak;refine tk 8 ?_;refine tk 9 ?_;refine tk 10 ?_;have bm:l<cZ:=za;obtain⟨t0,t1,t2,cn,cr,cp,ct,cq,cu⟩:=O.ready bm (.bool b5) (.slice A5 n5 c5);have Z:=yF.set_ y6 O bm b8;rw [List.set_append_left _ _ (by rw [cc.o,ad.o];exact hl),<-HE.o] at Z;obtain⟨cs9,a0,cm,_⟩:=O.blk;have N:=sF gZ (l*3) (l*3+1) (l*3+2) X3 (.bool b5) (.slice A5 n5 c5) (.slice E5 k5 f5);have bp:=zY.of_far (kB gZ (l*3) (l*3+1) (l*3+2) X3 (.bool b5) (.slice A5 n5 c5) (.slice E5 k5 f5));have M:=yk.offB aj a0 (jj cm) bp N a8.o;have bl:=N _ _ _ (xy az a0 zh) az;have b2:=N _ _ _ (Nat.ne_of_gt U.o.1) b1;have Q:=zd (pS (l*3) (l*3+1) (l*3+2) (.bool b5) (.slice A5 n5 c5) (.slice E5 k5 f5) a6.o a3.o);obtain⟨b6,B6,m6,d6,F6,u6,v6,r0,r1,r2,b0⟩:=M.num j _ (nV (d:=0) (by rw [M.len];exact hlt));obtain⟨p0,p1,p2⟩:=b2.c3;have bd:=zd Z;have ba:=zd M;have R:=zd bl;refine tk 11 ?_;refine rc 12 (λKK hK=>?_);go_simp;refine hK.out _ _ ?_ (λhHeld=>?_)
    ·have e1:=hHeld;refine Cs.far hHeld (kB _ _ _ _ _ _ _ _) ?_;have h1:=U.o.1;have h2:=a8.o;refine⟨?_,?_,?_,?_,?_,?_,trivial⟩<;>(simp;try omega)
    clear hK KK az O aj b1 Z a0 N bp M bl b2 r0 r1 r2 b0 p0 p1 p2 t0 t1 t2 cn cr cp ct cq cu;refine z8 ?_;clear hHeld v E J u au ao ap a a3 HE b8;go_wp2;go_roundg (n - j)
    case measure=>omega
    case rel=>exact⟨j+1,za,za,by go_num,Q.o,bd,ba,R⟩
  ·obtain rfl:j=n:=za;have ch:decide ((j:Int)<(j:Int))=false:=zD;have HF:zg (gG w m (kq S m xs) (.returned (.tuple #[.slice (some ⟨gZ,0,none⟩) m cZ,.bool true])) wr):=by
    obtain⟨cs,hk,_⟩:=D.o.blk;refine⟨gZ,cZ,rfl,a6.o,?_,⟨cs,hk⟩,hB⟩;rw [hL.o];exact D.o.head (by rw [eE];exact ad.o) bi
   clear hB D F HK;go_wp2
   go_ret2
   exact HF.o
end
