/- What this claim leans on. -/
import Derived.Test.YtdfdjfiognhbgaaGreatDoorDEDetW
set_option linter.unusedVariables false
set_option linter.unusedSimpArgs false
namespace Go.Proofs.YtdfdjfiognhbgaaGreatDoor
open Go Go.RowKit Go.Proofs.Tryz
set_option maxHeartbeats 16000000
set_option maxRecDepth 100000
variable {R:List (List Rat)}{ld:List Nat}{c i m:Nat}
def om (m:Nat)(ld:List Nat)(R:List (List Rat))(c i:Nat):List Rat:=(List.range i).foldl (λx r=>x.set (ld.getD r 0) (-zv R r c)) (uV m c)
theorem Xn (m:Nat)(ld:List Nat)(R:List (List Rat))(c i:Nat):om m ld R c (i+1)=(om m ld R c i).set (ld.getD i 0) (-zv R i c):=by unfold om;rw [yA,yR];rfl
theorem Vi (h:(uV m c).length=m)(i:Nat):(om m ld R c i).length=m:=by
 induction i with
 |zero=>exact h
 |succ i ih=>rw [Xn,xB,ih]
def dN (ld:List Nat)(i:Nat):List Nat:=(List.range i).filter λc=> !decide (c ∈ ld)
def uD (m:Nat)(ld:List Nat)(R:List (List Rat))(i:Nat):List (List Rat):=(dN ld i).map λc=>om m ld R c ld.length
theorem rH (h:i ∉ ld):uD m ld R (i+1)=uD m ld R i++[om m ld R i ld.length]:=by
 unfold uD dN;rw [yA,List.filter_append,YX];simp [h]
theorem nI (h:i ∈ ld):uD m ld R (i+1)=uD m ld R i:=by
 unfold uD dN;rw [yA,List.filter_append,YX];simp [h]
theorem nH (m:Nat)(ld:List Nat)(R:List (List Rat))(i:Nat):(uD m ld R i).length<=i:=by
 unfold uD dN;rw [xV];exact qL (List.length_filter_le _ _) (by rw [jJ];exact qY _)
theorem eX:((c:Int)∈ nL ld)↔c ∈ ld:=by
 unfold nL;rw [List.mem_map];constructor
 ·rintro⟨l,hl,e⟩;rwa [show c=l by omega]
 ·exact λh=>⟨c,h,rfl⟩
theorem rK (h:i<ld.length):(nL ld).getD i 0=((ld.getD i 0:Nat):Int):=by
 unfold nL;rw [qQ,qQ,QQ,qX h];rfl
def VH (w:World)(m:Nat)(Ls:List (List Rat))(eo:Ending)(w':World):Prop:=∃(A:ze) (k c:Nat),eo=.returned (.slice A k c)/\k=Ls.length/\y5 (zY zo) w' A k Ls/\(∀L ∈ Ls,L.length=m)/\k<=c/\c<=9223372036854775807/\Below w.heap.size w w'
section
variable {w:World}{A:ze}{n c m K K0:Nat}{MM:List (List Rat)}
theorem rn (hT:zu w)(h:yF w A n c m MM)(z:zV K0 MM)(hW:wN K MM)(hK:260*K+269<=33554432:=by omega)(bw:K+K0<=33554432:=by omega)(bx:0<K:=by omega):
  Calls prog 24 #[.agg #[.slice A n c,.int .i64 (m:Int)]] w (VH w m (uD m (xd m MM).ld (uk m MM) m)):=by
 obtain⟨hn,hm⟩:=And.intro h.hn h.hm;have HT:=zj w (λw' hb=>hT.on hb);have am:=lQ h.dims;obtain⟨s1,-,-,-⟩:=dG h.dims hn hW;have ag:=za s1;have af:zd (∀l ∈(xd m MM).ld,l<m):=qk am;have I:zd ((xd m MM).ld.length<=n):=qj am;have a0:zd (∀j,(uV m j).length=m):=λj=>by unfold uV;simp
 obtain⟨a,G,-⟩:=zw w 28 #[.slice A n c,.int .i64 (m:Int)];obtain⟨p0,p1⟩:=G.c2;have y:=za (aZ (hT.on a) (h.keep a) z hW hK bw bx);have HB:=za a;have C:=za G;obtain⟨st,bg⟩:∃st,xd m MM=st:=⟨_,rfl⟩;obtain⟨RM,a5⟩:∃RM,uk m MM=RM:=⟨_,rfl⟩;rw [bg] at af I y⊢;rw [a5] at ag y⊢;obtain⟨ld,a8⟩:∃ld,st.ld=ld:=⟨_,rfl⟩;rw [a8] at af I y⊢;have i0:(0:Int)<=(m:Int):=zb;unfold VH;obtain⟨i9,b3,b4,bl,bm⟩:=info_parts jK;clear hT h z hW a G am s1 bg a5 a8;go_enter func24,ntmps24;go_wp2_with fail;generalize w.alloc (.cells #[.slice A n c,.int .i64 (m:Int)] 28)=W1 at*;refine y.o.mono ?_;rintro eo w2 ⟨A2,c2,B2,k2,cB2,rfl,a7,a9,a4,hc3,hc4,hb⟩;obtain⟨a,G,-⟩:=zw w2 28 #[.slice A2 n c2,.int .i64 (m:Int)];have ak:=zc hb a;have HB:=za (zc HB.o ak);have C:=za (zf ak C.o);have S:=za (a9.keep a);have P:=za (a4.keep a);have Q:=za G;have R:=za a7;obtain⟨p2,p3⟩:=C.o.c2;clear hb a9 a4 a G ak p0 p1 y a7;go_wp2_with fail;generalize w2.alloc (.cells #[.slice A2 n c2,.int .i64 (m:Int)] 28)=W3 at*;generalize w2.heap.size=q3 at*;clear p2 p3;refine(uP A n c (m:Int) _).mono ?_;rintro eo w4 ⟨rfl,hb⟩;have HB:=za (zc HB.o hb);have C:=za (zf hb C.o);have Q:=za (zf hb Q.o);have S:=za (S.o.keep hb);have P:=za (P.o.keep hb);clear hb;have ar:=zj w4 (λw' hb=>S.o.keep hb);have ac:=zj w4 (λw' hb=>P.o.keep hb);have ap:=zj w4 (λw' hb=>zf hb C.o);have aq:=zj w4 (λw' hb=>zf hb Q.o);have ah:=zj w4 (λw' hb=>HT.o w' (zc HB.o hb));have D:=qZ w4.heap.size w4;clear S P C Q HT;go_wp2_with fail
 go_loopg [5,18] (m+1) (λg sl ix wr=>∃(i:Nat) (v:Value) (vs:List Value),i<=m/\m<g+i/\ix=.int .i64 i/\v=sl/\yk (zY zo) wr w4.heap.size 64 v (uD m ld RM i) vs/\Below w4.heap.size w4 wr)
 case atStart=>exact⟨0,_,_,qN _,zb,rfl,rfl,yk.nil _ _ _,D⟩
 case round=>
  clear D;obtain⟨i,v,vs,him,hg,rfl,rfl,U,D⟩:=hrel;by_cases hlt:i<m
  ·have b0:decide ((i:Int)<(m:Int))=true:=decide_eq_true zb;have s:=za U;have F:=za D;clear U D;go_wp2_with fail;by_cases hin:i ∈ ld
   ·refine(fR (decide_eq_true (eX.2 hin)) (ac.o _ F.o) (by have:=R.o;have:=I.o;omega)).mono ?_;rintro eo w5 ⟨rfl,hb⟩;have aw:zd (yk (zY zo) w5 w4.heap.size 64 v (uD m ld RM (i+1)) vs):=by rw [nI hin];exact s.o.below (zN zS) hb
    have B:=za (zc F.o hb);clear hb hin s F;go_wp2;go_roundg (m - i)
    case measure=>omega
    case rel=>exact⟨i+1,_,_,zb,zb,by go_num,rfl,aw.o,B.o⟩
   ·have br:=za hin;refine(fR (decide_eq_false (λh9=>hin (eX.1 h9))) (ac.o _ F.o) (by have:=R.o;have:=I.o;omega)).mono ?_;rintro eo w5 ⟨rfl,hb⟩;have B:=za (zc F.o hb);have s:=za (s.o.below (zN zS) hb);obtain⟨p0,p1⟩:=(ap.o _ B.o).c2;clear hb hin F;go_wp2_with fail;clear p0 p1;refine(uP A n c (m:Int) _).mono ?_;rintro eo w6 ⟨rfl,hb⟩;have B:=za (zc B.o hb);have s:=za (s.o.below (zN zS) hb);clear hb;have ax:=zj w6 (λw' hb=>s.o.below (zN zS) hb);have k:=zj w6 (λw' hb=>zc B.o hb);have a3:=qZ w6.heap.size w6;clear s B;go_wp2_with fail;(with_reducible refine(Ub m i _ (ah.o _ (k.o _ a3)) hm hlt).mono ?_);rintro eo w7 ⟨g7,rfl,b2,ba,d⟩;have bj:vP w7 g7 m (om m ld RM i 0):=ba;clear ba a3;go_wp2_with fail
    go_loopg [33] (k2+1) (λgg ix wx=>∃(r:Nat),r<=k2/\k2<gg+r/\ix=.int .i64 r/\vP wx g7 m (om m ld RM i r)/\Below w6.heap.size w6 wx)
    case atStart=>exact⟨0,qN _,zb,rfl,bj,d⟩
    case round=>
     clear bj d;obtain⟨r,hrk,hg2,rfl,hx,d⟩:=hrel;by_cases hlr:r<k2
     ·have b1:decide ((r:Int)<(k2:Int))=true:=decide_eq_true zb;have i1:(0:Int)<=(r:Int):=zb;have i2:(r:Int)<(k2:Int):=zb;have be:r<ld.length:=by rw [<-R.o];exact hlr
      have o:=za d;obtain⟨ad,a6,hc⟩:=(ac.o _ (k.o _ d)).num r hlr;rw [rK be] at hc;have al:ld.getD r 0<m:=af.o _ (iG be);have ae:=za (Xn m ld RM i r);obtain⟨l,hl⟩:∃l,ld.getD r 0=l:=⟨_,rfl⟩;rw [hl] at hc al ae;have i3:(0:Int)<=(l:Int):=zb;have i4:(l:Int)<(m:Int):=zb;obtain⟨p0,p1⟩:=(aq.o _ (k.o _ d)).c2;have bf:r<n:=by have:=I.o;omega
      have HX:=za hx;subst a6;clear hx d hl;go_wp2_with fail;(with_reducible refine(rR (ah.o _ (k.o _ o.o)) (ar.o _ (k.o _ o.o)) ag.o bf hlt zb).mono ?_);rintro eo w8 ⟨b8,A8,n8,c8,E8,k8,f8,rfl,bh,hb⟩;have HX:=za (HX.o.keep hb);have o:=za (zc o.o hb);have ai:=za bh;have bu:=za (ag.o.at_ (ar.o _ (k.o _ o.o)).dims bf hlt);clear hb bh hc p0 p1;go_wp2_with fail;(with_reducible refine(dF (zv RM r i) b8 A8 n8 c8 E8 k8 f8 _ (ah.o _ (k.o _ o.o)) ai.o (bu.o.fit ai.o zb)).mono ?_);rintro eo w9 ⟨b9,A9,n9,c9,E9,k9,f9,rfl,bi,hb⟩;have aj:=HX.o.keep hb;have an:=wA.set_ zS aj al bi;rw [<-ae.o] at an;obtain⟨q0,q1,q2,sc0,sf0,sc1,sf1,sc2,sf2⟩:=aj.ready al (.bool b9) (.slice A9 n9 c9);have bs:=za an;have Z:=za (lV (l*3) (l*3+1) (l*3+2) (.bool b9) (.slice A9 n9 c9) (.slice E9 k9 f9) b2 (zc o.o hb));clear hb bi aj an HX o ai ae;go_wp2;go_roundg (k2 - r)
      case measure=>omega
      case rel=>exact⟨r+1,zb,zb,by go_num,bs.o,Z.o⟩
     ·have J:r=k2:=zb;have b1:decide ((r:Int)<(k2:Int))=false:=by rw [J];simp
      have bk:vP wr g7 m (om m ld RM i ld.length):=by rw [<-R.o,<-J];exact hx
      obtain⟨t1,t2,-⟩:=zw wr 64 #[.slice (some ⟨g7,0,none⟩) m m];have ao:=zc d t1;have t:=za (ax.o _ ao);have a1:=za (zU.keep (xw bk) t1);have ab:=za (k.o _ ao);have N:=t.o.own;obtain⟨kk,T⟩:∃kk,(uD m ld RM i).length=kk:=⟨_,rfl⟩;have hkki:kk<=i:=by rw [<-T];exact nH m ld RM i
      rw [T] at N;have bo:=za T;have X:=za N;have az:=za t.o.sl;have H:=za (wT wr (.slice (some ⟨g7,0,none⟩) m m) 64);have aa:=za ab.o.size;have av:=za (λr (h:v.ownBlock=some r)=>t.o.own.lt r h);have a2:zd (∀u ∈(Value.slice none 0 0).cells.toList,yp u):=by intro u hu;simp [Value.cells] at hu;exact⟨_,_,_,hu⟩
      have au:zd (∀u ∈ [Value.slice (some ⟨g7,0,none⟩) m m],yp u):=by intro u hu;simp at hu;exact⟨_,_,_,hu⟩
      have V:zd (∀u ∈ [Value.slice (some ⟨g7,0,none⟩) m m],u.oneCell'=true):=by intro u hu;simp at hu;subst hu;rfl
      have bp:zd ((om m ld RM i ld.length).length=m):=Vi (a0.o i) _;clear hx bk d t1 t2 ao N T J;go_wp2_with (at_builtin;go_loud (refine gP _ rfl (.tmp 47) (.tmp 49) 26 rfl w4.heap.size 64 i9 (.slice none 0 0) 1 24 underlying26 b3 b4 bl bm rfl zg v kk vs rfl X.o ⟨wr.heap.size,0,none⟩ 1 1 [.slice (some ⟨g7,0,none⟩) m m] rfl rfl H.o V.o (by unfold maxLen;omega) zb aa.o az.o a2.o au.o ?_;intro v' w8 O E bz Y));have M:=yk.grow (n:=kk+1) (L:=om m ld RM i ld.length) (zN zS) t.o a1.o bp.o O (by rw [bo.o]) E Y;rw [<-rH br.o] at M;have ay:=za M;have bn:=za (ab.o.grown E aa.o (λr hr=>(av.o r hr).1));clear M O E bz Y t a1 X az H aa av a2 au V ab;go_wp2;go_roundg (m - i)
      case measure=>omega
      case rel=>exact⟨i+1,_,_,zb,zb,by go_num,rfl,ay.o,bn.o⟩
  ·have J:i=m:=zb;subst J;have b0:decide ((i:Int)<(i:Int))=false:=zE;obtain⟨Q5,q5,e5,bb,bc,bd,-⟩:=U.shape (n:=(uD i ld RM i).length) rfl;subst e5;have bt:=za bd;have Z:=za (zc HB.o D);have HQ:=za (And.intro bb bc);have bq:zd (∀L ∈ uD i ld RM i,L.length=i):=λL hL=>by
    unfold uD at hL;obtain⟨j,_,rfl⟩:=List.mem_map.1 hL;exact Vi (a0.o j) _
   clear U D bd bb bc;go_wp2;go_ret;exact⟨Q5,_,q5,rfl,rfl,bt.o,bq.o,HQ.o.1,HQ.o.2,Z.o⟩
end
def ie (m:Nat)(ld:List Nat)(R:List (List Rat))(i:Nat):List Rat:=(List.range i).foldl (λx r=>x.set (ld.getD r 0) (zv R r m)) (List.replicate m 0)
theorem Qn (m:Nat)(ld:List Nat)(R:List (List Rat))(i:Nat):ie m ld R (i+1)=(ie m ld R i).set (ld.getD i 0) (zv R i m):=by unfold ie;rw [yA,yR];rfl
def ud (m:Nat)(ld:List Nat)(R:List (List Rat)):List Rat:=if m ∈ ld then [] else ie m ld R ld.length
def vM (m:Nat)(ld:List Nat):Int:=if m ∈ ld then 1 else if ld.length<m then 3 else 2
def eO (w:World)(xs:List Rat)(z:Int)(eo:Ending)(w':World):Prop:=∃(A:ze) (k c:Nat),eo=.returned (.tuple #[.slice A k c,.int .i64 z,.bool true])/\zU w' A k c xs/\Below w.heap.size w w'
def vj (n m p:Nat)(MM:List (List Rat))(xs:List Rat):List (List Rat):=vk n p λa b=>if b=m then xs.getD a 0 else zv MM a b
theorem bH (n m p:Nat)(MM:List (List Rat))(xs:List Rat):zM (vj n m p MM xs) n p:=eI _ _ _
theorem Zb {n m p K:Nat}{MM:List (List Rat)}{xs:List Rat}(hp:m+1=p)(hd:zM MM n m)(h:zV K MM)(hl:xs.length=n)(hx:zK K xs):zV K (vj n m p MM xs):=zV.tab λr c hr hc=>by
 by_cases e:c=m
 ·rw [if_pos e];exact hx.at_ zb
 ·rw [if_neg e];exact h.at_ hd hr zb
section
variable {w:World}{A:ze}{n c m K K0:Nat}{MM:List (List Rat)}{V:ze}{k cv:Nat}{xs:List Rat}
theorem Xz {p:Nat}(hp:m+1=p)(hT:zu w)(h:yF w A n c m MM)(z:zV K0 MM)(hv:zU w V n cv xs)(zx:zK K0 xs)(a5:m<64)(hW:wN K (vj n m p MM xs))(hK:260*K+269<=33554432:=by omega)(a1:K+K0<=33554432:=by omega)(a2:0<K:=by omega):
  Calls prog 25 #[.agg #[.slice A n c,.int .i64 (m:Int)],.slice V n cv] w (eO w (ud m (xd p (vj n m p MM xs)).ld (uk p (vj n m p MM xs))) (vM m (xd p (vj n m p MM xs)).ld)):=by
 have hn:=h.hn;have HT:=zj w (λw' hb=>hT.on hb);have O:zM (vj n m p MM xs) n p:=bH n m p MM xs;have R:=lQ O;obtain⟨s1,-,-,-⟩:=dG O hn hW;have ab:=za s1;have Z:zd (∀l ∈(xd p (vj n m p MM xs)).ld,l<p):=qk R;have G:zd ((xd p (vj n m p MM xs)).ld.length<=n):=qj R;have ae:zd (zV K0 (vj n m p MM xs)):=Zb hp h.dims z hv.len zx;obtain⟨d,s,-⟩:=zw w 28 #[.slice A n c,.int .i64 (m:Int)];obtain⟨p0,p1⟩:=s.c2;have ac:zd (Calls _ _ _ _ (iw _ n p (vj n m p MM xs))):=(SR (K:=K0) hp (hT.on d) (h.keep d) z (hv.keep d) zx a5 zb);have HB:=za d;have a:=za s;have o:zd (∀(w':World) (A':ze) (c':Nat),zu w'->yF w' A' n c' p (vj n m p MM xs)->zd (Calls prog 23 #[.agg #[.slice A' n c',.int .i64 (p:Int)]] w' (aU w' n p (uk p (vj n m p MM xs)) (xd p (vj n m p MM xs)).ld))):=λw' A' c' h1 h2=>aZ h1 h2 ae.o hW hK a1 a2;obtain⟨ld,am⟩:∃ld,(xd p (vj n m p MM xs)).ld=ld:=⟨_,rfl⟩;obtain⟨RM,aj⟩:∃RM,uk p (vj n m p MM xs)=RM:=⟨_,rfl⟩;rw [am] at Z G o⊢;rw [aj] at ab o⊢;unfold eO;clear hT h z hW d s R s1 aj am hv zx O ae;have i0:(0:Int)<=(m:Int):=zb;go_enter func25,ntmps25;go_wp2_with fail;clear p0 p1;generalize w.alloc (.cells #[.slice A n c,.int .i64 (m:Int)] 28)=W1 at*;refine ac.o.mono ?_;rintro eo w2 ⟨A2,c2,rfl,hm2,-,hb⟩;obtain⟨d,s,-⟩:=zw w2 28 #[.slice A2 n c2,.int .i64 (p:Int)];obtain⟨p0,p1⟩:=s.c2;have y:=zc hb d;have HB:=za (zc HB.o y);have a:=za (zf y a.o);have J:=o.o _ A2 c2 (HT.o _ HB.o) (hm2.keep d);clear hb hm2 d s y ac o;go_wp2_with fail;clear p0 p1;generalize w2.alloc (.cells #[.slice A2 n c2,.int .i64 (p:Int)] 28)=W3 at*;refine J.o.mono ?_;rintro eo w4 ⟨A4,c4,B4,k4,cB4,rfl,al,an,ag,hc3,hc4,hb⟩;obtain⟨d,s,-⟩:=zw w4 28 #[.slice A4 n c4,.int .i64 (p:Int)];have y:=zc hb d;have HB:=za (zc HB.o y);have a:=za (zf y a.o);have t:=za (an.keep d);have j:=za (ag.keep d);have k:=za s;have B:=za al;obtain⟨p0,p1⟩:=a.o.c2;clear hb an ag d s y J al;go_wp2_with fail;clear p0 p1;generalize w4.alloc (.cells #[.slice A4 n c4,.int .i64 (p:Int)] 28)=W5 at*;generalize w4.heap.size=q9 at*;refine(uP A n c (m:Int) _).mono ?_;rintro eo w6 ⟨rfl,hb⟩;have HB:=za (zc HB.o hb);have a:=za (zf hb a.o);have k:=za (zf hb k.o);have t:=za (t.o.keep hb);have j:=za (j.o.keep hb);clear hb;go_wp2_with fail;by_cases hin:m ∈ ld
 ·have hX:ud m ld RM=[]:=by unfold ud;rw [if_pos hin]
  have hN:vM m ld=1:=by unfold vM;rw [if_pos hin]
  have HX:=za hX;have HN:=za hN;refine(fR (decide_eq_true (eX.2 hin)) j.o (by have:=B.o;have:=G.o;omega)).mono ?_;rintro eo w7 ⟨rfl,hb⟩;have HB:=za (zc HB.o hb);have HV:=za (zY.nil (E:=zo) w7);clear hb hin hX hN;go_wp2;refine bodyPost_ret (v:=.tuple #[.slice none 0 0,.int .i64 1,.bool true]) (by simp [results,results25,go_sem]) rfl ?_;exact⟨none,0,0,by rw [HN.o],by rw [HX.o];exact HV.o,HB.o⟩
 ·have hX:ud m ld RM=ie m ld RM ld.length:=by unfold ud;rw [if_neg hin]
  have hN:vM m ld=if ld.length<m then 3 else 2:=by unfold vM;rw [if_neg hin]
  have HX:=za hX;have HN:=za hN;have aa:zd (∀i,i<ld.length->ld.getD i 0<m):=λi hi=>by
   have h1:=Z.o _ (iG hi);have h2:ld.getD i 0≠m:=λe=>hin (e▸iG hi);omega
  refine(fR (decide_eq_false (λh9=>hin (eX.1 h9))) j.o (by have:=B.o;have:=G.o;omega)).mono ?_;rintro eo w7 ⟨rfl,hb⟩;have HB:=za (zc HB.o hb);have a:=za (zf hb a.o);have k:=za (zf hb k.o);have t:=za (t.o.keep hb);have j:=za (j.o.keep hb);obtain⟨p0,p1⟩:=a.o.c2;clear hb hin hX hN;go_wp2_with fail;clear p0 p1;refine(uP A n c (m:Int) _).mono ?_;rintro eo w8 ⟨rfl,hb⟩;have HB:=za (zc HB.o hb);have a:=za (zf hb a.o);have k:=za (zf hb k.o);have t:=za (t.o.keep hb);have j:=za (j.o.keep hb);clear hb;have aw:=zj w8 (λw' hb=>t.o.keep hb);have av:=zj w8 (λw' hb=>j.o.keep hb);have I:=zj w8 (λw' hb=>zf hb a.o);have U:=zj w8 (λw' hb=>zf hb k.o);have a0:=zj w8 (λw' hb=>HT.o w' (zc HB.o hb));have X:=za a.o.lt;have Y:=za k.o.lt;clear t j a k HT;go_wp2_with fail;(with_reducible refine(XF m _ zb).mono ?_);rintro eo w9 ⟨g9,rfl,a4,ao,af⟩;have ar:vP w9 g9 m (ie m ld RM 0):=ao;clear ao;go_wp2_with fail
  go_loopg [40] (k4+1) (λgg ix wx=>∃(r:Nat),r<=k4/\k4<gg+r/\ix=.int .i64 r/\vP wx g9 m (ie m ld RM r)/\Below w8.heap.size w8 wx)
  case atStart=>exact⟨0,qN _,zb,rfl,ar,af⟩
  case round=>
   clear ar af;obtain⟨r,hrk,hg2,rfl,hx,F⟩:=hrel;by_cases hlr:r<k4
   ·have a3:decide ((r:Int)<(k4:Int))=true:=decide_eq_true zb;have i1:(0:Int)<=(r:Int):=zb;have i2:(r:Int)<(k4:Int):=zb;have ap:r<ld.length:=by rw [<-B.o];exact hlr
    have g:=za F;obtain⟨ad,ak,hc⟩:=(av.o _ F).num r hlr;rw [rK ap] at hc;have Q:ld.getD r 0<m:=aa.o r ap;have L:=za (Qn m ld RM r);obtain⟨l,hl⟩:∃l,ld.getD r 0=l:=⟨_,rfl⟩;rw [hl] at hc Q L;have i3:(0:Int)<=(l:Int):=zb;have i4:(l:Int)<(m:Int):=zb;have a7:r<n:=by have:=G.o;omega
    have a6:m<p:=zb;have C:=za hx;subst ak;clear hx F hl;go_upto_region 11 with fail;clear hc;obtain⟨p0,p1⟩:=(U.o _ g.o).c2;obtain⟨p2,p3⟩:=(I.o _ g.o).c2;have N:=(qZ wr.heap.size wr).drew;refine rg (zl p0 (zl p1 (zl p2 (zl p3 zJ)))) (λhHeld=>?_);have C:=za (C.o.keep N);have g:=za (zc g.o N);clear p0 p1 p2 p3 N;generalize wr.drew=D at*;refine tk 0 ?_;refine tk 1 ?_;refine tk 2 ?_;refine tk 3 ?_;refine tk 4 ?_;refine rc 5 (λKK u=>?_);go_simp;refine(uP A n c (m:Int) _).mono ?_;rintro eo be ⟨rfl,hb⟩;refine u.out _ _ (Cs.below hHeld hb) (λhHeld=>?_);have C:=za (C.o.keep hb);have g:=za (zc g.o hb);clear u KK hb;refine rc 6 (λKK u=>?_);go_simp;(with_reducible refine(rR (a0.o _ g.o) (aw.o _ g.o) ab.o a7 a6 zb).mono ?_);rintro eo bf ⟨b8,A8,n8,c8,E8,k8,f8,rfl,aq,hb⟩;refine u.out _ _ (Cs.below hHeld hb) (λhHeld=>?_);have M:=C.o.keep hb;have S:=wA.set_ zS M Q aq;rw [<-L.o] at S;obtain⟨q0,q1,q2,a8,bb,a9,bc,ba,bd⟩:=M.ready Q (.bool b8) (.slice A8 n8 c8);have az:=za S;have au:=za (lV (l*3) (l*3+1) (l*3+2) (.bool b8) (.slice A8 n8 c8) (.slice E8 k8 f8) a4 (zc g.o hb));clear u KK hb aq M S C g L;refine tk 7 ?_;refine rc 8 (λKK u=>?_);go_simp;refine u.out _ _ (Cs.far hHeld ((((z4.refl g9 bf).set_ (l*3) (.bool b8)).set_ (l*3+1) (.slice A8 n8 c8)).set_ (l*3+2) (.slice E8 k8 f8)) ⟨(by have:=Y.o;show q9≠g9;omega),(by have:=Y.o;show q9≠g9;omega),(by have:=X.o;show w.heap.size≠g9;omega),(by have:=X.o;show w.heap.size≠g9;omega),trivial⟩) (λhHeld=>?_);clear u KK a8 bb a9 bc ba bd;refine zT ?_;clear hHeld;go_wp2;go_roundg (k4 - r)
    case measure=>omega
    case rel=>exact⟨r+1,zb,zb,by go_num,az.o,au.o⟩
   ·have P:r=k4:=zb;have a3:decide ((r:Int)<(k4:Int))=false:=by rw [P];simp
    have H:zd (vP wr g9 m (ud m ld RM)):=by rw [HX.o,<-B.o,<-P];exact hx
    have g:=za F;obtain⟨p2,p3⟩:=(I.o _ F).c2;clear hx F P;go_wp2_with fail;clear p2 p3;refine(uP A n c (m:Int) _).mono ?_;rintro eo be ⟨rfl,hb⟩;have H:=za (H.o.keep hb);have T:=za (zc HB.o (zc g.o hb));clear hb g;by_cases hlt:k4<m
    ·have d5:decide ((k4:Int)<(m:Int))=true:=decide_eq_true zb;have ai:vM m ld=3:=by rw [HN.o,if_pos (by rw [<-B.o];exact hlt)]
     have ay:=za ai;clear ai;go_wp2;refine bodyPost_ret (v:=.tuple #[.slice (some ⟨g9,0,none⟩) m m,.int .i64 3,.bool true]) (by simp [results,results25,go_sem]) rfl ?_;exact⟨_,_,_,by rw [ay.o],xw H.o,T.o⟩
    ·have d5:decide ((k4:Int)<(m:Int))=false:=decide_eq_false zb;have ah:vM m ld=2:=by rw [HN.o,if_neg (by rw [<-B.o];exact hlt)]
     have ax:=za ah;clear ah;go_wp2;refine bodyPost_ret (v:=.tuple #[.slice (some ⟨g9,0,none⟩) m m,.int .i64 2,.bool true]) (by simp [results,results25,go_sem]) rfl ?_;exact⟨_,_,_,by rw [ax.o],xw H.o,T.o⟩
end
