/- What this claim leans on. -/
import Derived.Test.YtielpgdebeggbaaGreatDoorWLXchg
set_option linter.unusedVariables false
set_option linter.unusedSimpArgs false
namespace Go.Proofs.YtielpgdebeggbaaGreatDoor
open Go Go.RowKit Go.Proofs.Tryz
set_option maxHeartbeats 16000000
set_option maxRecDepth 100000
variable {e:yt}{M:List (List Rat)}{qs:List Nat}{K c cA cB cD g k m n:Nat}{x0 x1 x2:Value}{w:World}{A B D:ze}
theorem Xk {c:Nat}(hn:e.S.length=n):vi c (e.S.drop c)=if wA c e<n - c then((wA c e:Nat):Int) else -1:=by
 unfold vi wA;rw [xZ,hn]
theorem z5.msz (h:z5 n c K M e):z7 (67+65*K) e.S:=λL hL x hx=>by
 obtain⟨i,hi,rfl⟩:=List.mem_iff_getElem.1 hL;obtain⟨j,hj,rfl⟩:=List.mem_iff_getElem.1 hx;have a:i<n:=by rw [<-h.dims.rows];exact hi
 have hr:=h.dims.row a;have e1:e.S.getD i []=e.S[i]:=by rw [qQ,qY hi];rfl
 rw [e1] at hr;have:=h.li i a j zb;unfold zl at this;rw [e1,qQ,qY hj] at this;exact this.szq zb
theorem zw.c0 {l:Nat}(h:zw w g m e A n cA B k cB D l cD x0 x1 x2 qs):w.cell? ⟨g,0,none⟩=some (.slice A n cA):=h.blk.cell 0
theorem zw.lines {l:Nat}(h:zw w g m e A n cA B k cB D l cD x0 x1 x2 qs)(hm:m<=9223372036854775807):n<=cA/\cA<=9223372036854775807/\yx (z8 zo) w A n e.S:=by
 obtain⟨A',c',hA,h1,h2,h3,_⟩:=h.rows.shape h.hn hm;injection hA with a1 a2 a3;subst a1 a3;exact⟨h1,h2,h3⟩
theorem Qy (h:z5 n c K M e)(hM:zO M n n)(hn:n<=64)(hW:xc K M)(hc:c<n)(g:zl e.S c c≠0)(i:Nat):z7 (67+65*K) (wN c e.S i):=λL hL x hx=>by
 unfold wN at hL;obtain⟨j,hj,rfl⟩:=List.mem_mapIdx.1 hL;have a:j<n:=by rw [<-h.dims.rows];exact hj
 have e1:e.S.getD j []=e.S[j]:=by rw [qQ,qY hj];rfl
 split at hx
 ·next hcj=>
  have hlen:(vL c (zD (zl e.S) c) e.S[j] (e.S.getD c [])).length=n:=fV (by rw [<-e1];exact h.dims.row a) (h.dims.row hc) hc;obtain⟨k,hk,rfl⟩:=List.mem_iff_getElem.1 hx;have d:k<n:=zb;have hs:wU n n (c+1) (aF M e) (zl (wT c e.S)):=h.sz.step hc hc g (λi h1 h2 j h3 h4=>by rw [dO h.dims hc h2 h4];unfold uv;rw [if_pos ⟨h1,h3⟩]) (by rw [dO h.dims hc hc hc];unfold uv;rw [if_neg zb]);have e3:(vL c (zD (zl e.S) c) e.S[j] (e.S.getD c []))[k]=zl (wT c e.S) j k:=by
   have h9:(wT c e.S).getD j []=vL c (zD (zl e.S) c) e.S[j] (e.S.getD c []):=by rw [aP (by rw [h.dims.rows];exact a),if_pos hcj.1,e1]
   have h8:∀(L:List Rat) (q:k<L.length),L[k]=L.getD k 0:=λL q=>by rw [qQ,qY q];rfl
   refine(h8 _ hk).trans ?_;show _=((wT c e.S).getD j []).getD k 0;rw [h9]
  rw [e3];by_cases hck:c<k
  ·exact(hs.at_ hn (h.ali hM hW) hcj.1 a hck d).szq zb
  ·rw [dO h.dims hc a d];unfold uv;rw [if_neg zb];exact(h.li j a k d).szq zb
 ·exact h.msz _ (xH hj) x hx
theorem zE.drop_ {xs:List Rat}(h:zE K xs)(k:Nat):zE K (xs.drop k):=λx hx=>h x (XV hx)
section
variable {w:World}{g n c K:Nat}{e:yt}{M:List (List Rat)}{cA cB cD gA gB gD:Nat}{x0 x1 x2:Value}{qs:List Nat}
theorem SN (hT:zt w)(h:zw w g n e (some ⟨gA,0,none⟩) n cA (some ⟨gB,0,none⟩) n cB (some ⟨gD,0,none⟩) n cD x0 x1 x2 qs)(k:z5 n c K M e)(hc:c<n)(hn:n<=64)(hb:¬wA c e<n - c)(hK:67+65*K<=67108864):
  Calls prog 41 #[.pointer (some ⟨g,0,none⟩),.int .i64 (c:Int)] w (λeo w'=>eo=.returned (.bool false)/\Below g w w'):=by
 obtain⟨hnc,hcm,hL⟩:=h.lines zb;have hz:=k.msz;have d:=Xk (c:=c) h.hn;rw [if_neg hb] at d;obtain⟨a,i,-⟩:=zu w 3 #[.int .i64 (c:Int)];have HI:zd (∀W,Below (w.alloc (.cells #[.int .i64 (c:Int)] 3)).heap.size (w.alloc (.cells #[.int .i64 (c:Int)] 3)) W->Calls prog 88 #[.slice (some ⟨gA,c,none⟩) (n - c) (cA - c),.func (.func 89) #[] #[.pointer (some ⟨w.heap.size,0,none⟩)]] W (λeo w'=>eo=.returned (.int .i64 (-1))/\Below W.heap.size W w')):=λW hW=>by
  have hD:=(hL.below (y7 zZ) (zc a hW)).drop_ (qG hc);rw [show Option.map (λx:Addr=>x.add c) (some ⟨gA,0,none⟩)=some ⟨gA,c,none⟩ from congrArg some (xk gA c)] at hD;have hI:=Xf (q:=cA - c) (hT.on (zc a hW)) hD (zg hW i) hc (λL hL=>k.dims.cols L (XV hL)) (λL hL=>hz L (XV hL)) zb hK;rw [d] at hI;exact hI
 have hmf:=Z1;have HG:=za h.lt;have HS:=za (h.below a);have o:=za i;have HB:=za a;have i1:(0:Int)<=(c:Int):=zb;have i2:(c:Int)<=(n:Int):=zb;have i3:(n:Int)<=(cA:Int):=zb;have i4:(c:Int)<=(cA:Int):=zb;have hck:¬(cA=c):=zb;clear hT h k hz d hL a i hb;go_enter func41,ntmps41;go_upto_region 1 with fail;have p0:=HS.o.c0;have q0:=o.o.c1;generalize w.alloc (.cells #[.int .i64 (c:Int)] 3)=W1 at*;have j:=(qZ W1.heap.size W1).drew;refine rg (zk p0 (zk q0 zQ)) (λhHeld=>?_);have HI:=za (HI.o _ j);have HB:=za (zc HB.o j);clear p0 q0 j;generalize W1.drew=D1 at*;refine tk 0 ?_;refine tk 1 ?_;refine tk 2 ?_;refine tk 3 ?_;refine tk 4 ?_;refine tk 5 ?_;refine tk 6 ?_;refine rc 7 (λKK m=>?_);go_simp;(with_reducible refine HI.o.mono ?_);rintro eo w1 ⟨rfl,hb⟩;refine m.out _ _ (Cs.below hHeld hb) (λhHeld=>?_);have HB:=za (zc HB.o hb);clear m KK hb HI;refine tk 8 ?_;refine zN ?_;clear hHeld;go_wp2;go_ret;exact⟨rfl,HB.o.mono (qG HG.o)⟩
theorem Sr (hT:zt w)(h:zw w g n e (some ⟨gA,0,none⟩) n cA (some ⟨gB,0,none⟩) n cB (some ⟨gD,0,none⟩) n cD x0 x1 x2 qs)(F:z5 n c K M e)(hM:zO M n n)(hW:xc K M)(bd:0<g)(hc:c<n)(hn:n<=64)(hb:wA c e<n - c)(hK:67+65*K<=8388608):
  Calls prog 41 #[.pointer (some ⟨g,0,none⟩),.int .i64 (c:Int)] w (λeo w'=>eo=.returned (.bool true)/\(∃y0 y1 y2 ap,zw w' g n (iw c e) (some ⟨gA,0,none⟩) n cA (some ⟨gB,0,none⟩) n cB (some ⟨gD,0,none⟩) n cD y0 y1 y2 ap)/\Below g w w'):=by
 obtain⟨hnc,hcm,hL⟩:=h.lines zb;have hz:=F.msz;have E:=Xk (c:=c) h.hn;rw [if_pos hb] at E;obtain⟨A,ac,-⟩:=zu w 3 #[.int .i64 (c:Int)];have HI:zd (∀W,Below (w.alloc (.cells #[.int .i64 (c:Int)] 3)).heap.size (w.alloc (.cells #[.int .i64 (c:Int)] 3)) W->Calls prog 88 #[.slice (some ⟨gA,c,none⟩) (n - c) (cA - c),.func (.func 89) #[] #[.pointer (some ⟨w.heap.size,0,none⟩)]] W (λeo w'=>eo=.returned (.int .i64 ((wA c e:Nat):Int))/\Below W.heap.size W w')):=λW hW=>by
  have hD:=(hL.below (y7 zZ) (zc A hW)).drop_ (qG hc);rw [show Option.map (λx:Addr=>x.add c) (some ⟨gA,0,none⟩)=some ⟨gA,c,none⟩ from congrArg some (xk gA c)] at hD;have hI:=Xf (q:=cA - c) (hT.on (zc A hW)) hD (zg hW ac) hc (λL hL=>F.dims.cols L (XV hL)) (λL hL=>hz L (XV hL)) zb zb;rw [E] at hI;exact hI
 have bz:=Z1;have HG:=za h.lt;have HS:=za (h.below A);have a:=za ac;have HB:=za A;have i1:(0:Int)<=(c:Int):=zb;have i2:(c:Int)<=(n:Int):=zb;have i3:(n:Int)<=(cA:Int):=zb;have i4:(c:Int)<=(cA:Int):=zb;have hck:¬(cA=c):=zb;obtain⟨v,G⟩:=F.pick hb;obtain⟨b,ad⟩:∃b,wA c e=b:=⟨_,rfl⟩;have ai:ot c e=if b=0 then e else⟨yq [] c (c+b) e.S,yq 0 c (c+b) e.T,yq 0 c (c+b) e.P,-e.rd⟩:=by unfold ot;rw [ad]
 rw [ad] at HI hb;have Z:zd (iw c e={ot c e with S:=wT c (ot c e).S}):=rfl;obtain⟨pk,Y⟩:∃pk,ot c e=pk:=⟨_,rfl⟩;rw [Y] at v G ai Z;have aa:=za ai;have ax:=za v.msz;have ar:=za v.dims;have s:zd (pk.S.length=n):=v.dims.rows;have av:=za (v.inv.pr (qX c));have bp:zd (∀i,z7 (67+65*K) (wN c pk.S i)):=λi=>by
  have hnx:=v;intro L hL x hx;exact Qy v hM hn hW hc G i L hL x hx
 have az:zd (zn (1+64*K) e.rd):=by
  have hr:zn (1+64*K) (vM M):=by
   have:=eX hW M.length (qX _);rw [List.take_length] at this;exact(this.up (XN (qS _ (by rw [hM.rows];exact hn)) _)).szq zb
  rcases F.rd with e1|e1<;>rw [e1]
  ·exact hr
  ·exact hr.neg
 rw [Z.o];have HT:=za (λw' (hb:Below g w w')=>UZ hT bd hb);have ag:gD≠w.heap.size/\gA≠w.heap.size/\gB≠w.heap.size:=by
  obtain⟨_,cs,h1,_⟩:=h.rows.at_ (q:=gA) rfl;obtain⟨_,ds,h2,_⟩:=h.atB (q:=gB) rfl;obtain⟨_,es,h3,_⟩:=h.atD (q:=gD) rfl;have:=h1.lt;have:=h2.lt;have:=h3.lt;omega
 obtain⟨hgA,hgB,hgD⟩:=h.apart;clear hT h F hz E hL A ac v G ai Y ad Z;go_enter func41,ntmps41;go_upto_region 1 with fail;have p0:=HS.o.c0;have q0:=a.o.c1;generalize w.alloc (.cells #[.int .i64 (c:Int)] 3)=W1 at*;have j:=(qZ W1.heap.size W1).drew;refine rg (zk p0 (zk q0 zQ)) (λhHeld=>?_);have HI:=za (HI.o _ j);have HS:=za (HS.o.below j);have a:=za (zg j a.o);have HB:=za (zc HB.o j);clear p0 q0 j;generalize W1.drew=D1 at*;refine tk 0 ?_;refine tk 1 ?_;refine tk 2 ?_;refine tk 3 ?_;refine tk 4 ?_;refine tk 5 ?_;refine tk 6 ?_;refine rc 7 (λKK m=>?_);go_simp;(with_reducible refine HI.o.mono ?_);rintro eo w1 ⟨rfl,hb⟩;refine m.out _ _ (Cs.below hHeld hb) (λhHeld=>?_);have HS:=za (HS.o.below hb);have a:=za (zg hb a.o);have HB:=za (zc HB.o hb);clear m KK hb HI;refine tk 8 ?_;refine zN ?_;clear hHeld;have HB:=za (HB.o.mono (qG HG.o));have d1:decide ((b:Int)<0)=false:=decide_eq_false zb;go_upto_if 19 with fail
 go_cut [20,21,22,23,24,25] (λs20 s21 s22 s23 s24 s25 wx=>(∃y0 y1 y2 ap,zw wx g n pk (some ⟨gA,0,none⟩) n cA (some ⟨gB,0,none⟩) n cB (some ⟨gD,0,none⟩) n cD y0 y1 y2 ap)/\zh wx w.heap.size 3 #[.int .i64 (c:Int)]/\Below g w wx)
 case first=>
  have q0:=a.o.c1;by_cases hb0:b=0
  ·have d2:decide ((0:Int)<(b:Int))=false:=decide_eq_false zb;have d3:decide ((b:Int)>0)=false:=decide_eq_false zb;have hS:pk=e:=by rw [aa.o,if_pos hb0]
   go_wp2;go_meet;exact⟨⟨_,_,_,_,by rw [hS];exact HS.o⟩,a.o,HB.o⟩
  ·have d2:decide ((0:Int)<(b:Int))=true:=decide_eq_true zb;have d3:decide ((b:Int)>0)=true:=decide_eq_true zb;have hS:pk=⟨yq [] c (c+b) e.S,yq 0 c (c+b) e.T,yq 0 c (c+b) e.P,-e.rd⟩:=by rw [aa.o,if_neg hb0]
   have au:=za hS;clear hS;obtain⟨cb,a8⟩:∃q,c+b=q:=⟨_,rfl⟩;have j1:(c:Int)+(b:Int)=((cb:Nat):Int):=zb;have a9:cb<n:=zb;have bb:c≠cb:=zb;rw [a8] at au;clear a8;go_wp2_with fail;clear q0;(with_reducible refine(So (L:=1+64*K) (HT.o _ HB.o) HS.o bd hc a9 bb zb az.o zb).mono ?_);rintro eo w2 ⟨rfl,⟨y0,y1,y2,hs⟩,a4,ho⟩;have bq:zd (zw w2 g n pk (some ⟨gA,0,none⟩) n cA (some ⟨gB,0,none⟩) n cB (some ⟨gD,0,none⟩) n cD y0 y1 y2 (yq 0 c cb qs)):=by show zw _ _ _ _ _ _ _ _ _ _ _ _ _ _ _ _ _;rw [au.o];exact hs
   have bm:=za (ho _ _ _ (Ne.symm (QT HG.o)) (Ne.symm ag.2.1) (Ne.symm ag.2.2) (Ne.symm ag.1) a.o);have bj:=za (HB.o.trans a4);clear hs a4 ho HS HB a;go_wp2;go_meet;exact⟨⟨_,_,_,_,bq.o⟩,bm.o,bj.o⟩
 case rest=>
  obtain⟨⟨y0,y1,y2,qp,hs⟩,hk,hB⟩:=hcut;obtain⟨wk,b0⟩:∃x,x=wc:=⟨_,rfl⟩;subst b0;have HS:=za hs;have a:=za hk;have HB:=za hB;clear hs hk hB aa az bz d1;obtain⟨c1,a6⟩:∃c1,c+1=c1:=⟨_,rfl⟩;have j1:IntKind.i64.wrap ((c:Int)+1)=(c1:Int):=by rw [QP _ zb];omega
  have j1b:IntKind.i64.wrap (c1:Int)=(c1:Int):=by rw [QP _ zb]
  have j2:(0:Int)<=(c1:Int):=zb;have j3:(c1:Int)<=(n:Int):=zb;have j4:(c1:Int)<=(cA:Int):=zb;have z:=za a6;have X:c1<=n:=zb;have hcc:c<c1:=zb;clear a6;go_upto_region 6 with fail;have p0:=HS.o.c0;have q0:=a.o.c1;have j:=(qZ wk.heap.size wk).drew;refine rg (zk p0 (zk q0 zQ)) (λhHeld=>?_);have u:=HS.o.lt;have HS:=za (HS.o.below j);have a:=za (zg j a.o);have HB:=za (HB.o.trans (j.mono (qG u)));clear p0 q0 j u;generalize wk.drew=D6 at*;by_cases hck2:cA=c1
  ·have hn1:n - c1=0:=zb;subst hck2;have o:=Xo (c:=c) (i:=0) s.o (by have:=z.o;omega);rw [Xh] at o;have HF:zd (zw D6 g n {pk with S:=wT c pk.S} (some ⟨gA,0,none⟩) n cA (some ⟨gB,0,none⟩) n cB (some ⟨gD,0,none⟩) n cD y0 y1 y2 qp):=by show zw _ _ _ _ _ _ _ _ _ _ _ _ _ _ _ _ _;rw [<-o];exact HS.o
   clear o;refine tk 0 ?_;refine tk 1 ?_;refine tk 2 ?_;refine tk 3 ?_;refine tk 4 ?_;refine tk 5 ?_;refine tk 6 ?_;refine tk 7 ?_;refine tk 8 ?_;refine zN ?_;clear hHeld;have C:=HF.o;have B:=HB.o;clear HS a HF HB;go_wp2_with fail
   go_loopg [34] (n+1) (λgg ix wr=>ix=.int .i64 0/\zw wr g n {pk with S:=wT c pk.S} (some ⟨gA,0,none⟩) n cA (some ⟨gB,0,none⟩) n cB (some ⟨gD,0,none⟩) n cD y0 y1 y2 qp/\Below g w wr)
   case atStart=>exact⟨rfl,C,B⟩
   case round=>
    clear C B;obtain⟨rfl,hS,hB⟩:=hrel;have HF:=za hS;have HB:=za hB;clear hS hB;go_wp2;go_ret;exact⟨rfl,⟨_,_,_,_,HF.o⟩,HB.o⟩
  ·have C:zw D6 g n {pk with S:=wN c pk.S 0} (some ⟨gA,0,none⟩) n cA (some ⟨gB,0,none⟩) n cB (some ⟨gD,0,none⟩) n cD y0 y1 y2 qp:=by rw [Xh];exact HS.o
   have a2:=a.o;have B:=HB.o;clear HS a HB;refine tk 0 ?_;refine tk 1 ?_;refine tk 2 ?_;refine tk 3 ?_;refine tk 4 ?_;refine tk 5 ?_;refine tk 6 ?_;refine tk 7 ?_;refine tk 8 ?_;refine zN ?_;clear hHeld;go_wp2_with fail
   go_loopg [34] (n+1) (λgg ix wr=>∃(i:Nat),i<=n - c1/\n<gg+i/\ix=.int .i64 i/\zw wr g n {pk with S:=wN c pk.S i} (some ⟨gA,0,none⟩) n cA (some ⟨gB,0,none⟩) n cB (some ⟨gD,0,none⟩) n cD y0 y1 y2 qp/\Below g w wr/\zh wr w.heap.size 3 #[.int .i64 (c:Int)])
   case atStart=>exact⟨0,qW _,zb,rfl,C,B,a2⟩
   case round=>
    clear C B a2;obtain⟨i,hin,hg,rfl,hS,hB,m⟩:=hrel;by_cases hlt:i<n - c1
    ·have d4:decide ((i:Int)<((n - c1:Nat):Int))=true:=decide_eq_true zb;have d5:(i:Int)<((n - c1:Nat):Int):=zb;have i5:(0:Int)<=(i:Int):=zb;have hr:c1+i<n:=zb;have bh:c+1+i<pk.S.length:=by rw [s.o];have:=z.o;omega
     have bi:c+1+i=c1+i:=by have:=z.o;omega
     obtain⟨u7,am⟩:∃x,qp.getD (c1+i) 0=x:=⟨_,rfl⟩;obtain⟨uc,an⟩:∃x,qp.getD c 0=x:=⟨_,rfl⟩;have bg:=hS.rowAt hr;have a7:=hS.rowAt hc;rw [am] at bg;rw [an] at a7;obtain⟨a0,-,J⟩:=bg;obtain⟨a1,-,R⟩:=a7;have H:(wN c pk.S i).getD (c1+i) []=pk.S.getD (c1+i) []:=by rw [Xp (by rw [s.o];exact hr),if_neg (by have:=z.o;omega)]
     have I:(wN c pk.S i).getD c []=pk.S.getD c []:=aJ (by rw [s.o];exact hc) (qX c);have J:yh wr u7 n (pk.S.getD (c1+i) []):=by rw [<-H];exact J
     have R:yh wr uc n (pk.S.getD c []):=by rw [<-I];exact R
     obtain⟨ae,b5,B5,m5,bw,E5,u5,v5,e9,-,q3,q4,q5,hx⟩:=(xe J).get (qZ _ _) hc;injection e9 with e9;subst e9;rw [xk] at q3;have q3:wr.cell? ⟨u7,c*3,none⟩=some (.bool b5):=q3;have q4:wr.cell? ⟨u7,c*3+1,none⟩=some (.slice B5 m5 bw):=by rw [xk] at q4;exact q4
     have q5:wr.cell? ⟨u7,c*3+2,none⟩=some (.slice E5 u5 v5):=by rw [xk] at q5;exact q5
     have HX:=za hx;have HS:=za hS;have HB:=za hB;have a:=za m;have t:=za J;have N:=za R;have bs:=za am;have bt:=za an;have hcn1:¬(n=c1):=zb;have hcA1:¬(cA=c1):=zb;have a3:=SL (p:=zD (zl pk.S) c) (row:=pk.S.getD (c1+i) []) (by_:=pk.S.getD c []) z.o;have bo:=za a3;have ab:=za (SM bh);rw [bi] at ab;have U:zd (zE (67+65*K) (pk.S.getD (c1+i) [])):=ax.o.row (by rw [s.o];exact hr);have ay:zd (zE (67+65*K) (pk.S.getD c [])):=ax.o.row (by rw [s.o];exact hc);have bu:zd (zn (67+65*K) ((pk.S.getD (c1+i) []).getD c 0)):=U.o.at_ (by rw [(xe t.o).len];exact hc);have aw:zd (zD (zl (wN c pk.S i)) c=zD (zl pk.S) c):=Qx s.o hc;have bl:zd (zl (wN c pk.S i) c c=(pk.S.getD c []).getD c 0):=Qw s.o hc;clear hx hS hB m J R H I am an a3 bi bh;go_upto_region 9 with fail;have p0:=HS.o.c0;have q0:=a.o.c1;have j:=(qZ wr.heap.size wr).drew;have u:=HS.o.lt;refine rg (zk p0 (zk q0 (zk a1 (zk q3 (zk q4 (zk q5 zQ)))))) (λhHeld=>?_);have HS:=za (HS.o.below j);have a:=za (zg j a.o);have HB:=za (HB.o.trans (j.mono (qG u)));have HX:=za (HX.o.below j);have t:=za (t.o.keep j);have N:=za (N.o.keep j);clear p0 q0 a0 a1 q3 q4 q5 j u;generalize wr.drew=D9 at*;refine tk 0 ?_;refine tk 1 ?_;refine tk 2 ?_;refine tk 3 ?_;refine tk 4 ?_;refine tk 5 ?_;refine tk 6 ?_;refine tk 7 ?_;refine tk 8 ?_;refine tk 9 ?_;refine tk 10 ?_;refine tk 11 ?_;refine tk 12 ?_;refine tk 13 ?_;refine tk 14 ?_;refine tk 15 ?_;refine tk 16 ?_;refine tk 17 ?_;refine tk 18 ?_;refine tk 19 ?_;refine tk 20 ?_;refine tk 21 ?_;refine tk 22 ?_;refine tk 23 ?_;refine tk 24 ?_;refine tk 25 ?_;refine tk 26 ?_;refine rc 27 (λKK m=>?_);go_simp;obtain⟨-,-,hL⟩:=HS.o.lines zb;have aj:=zR.rest (k:=c1) (xe t.o) X;have ak:=zR.rest (k:=c1) (xe N.o) X;rw [xk] at aj ak;(with_reducible refine(eC (L:=67+65*K) (HT.o _ HB.o) hL (Sn ar.o hc) hc hc (bp.o i) aj (U.o.drop_ c1) HX.o bu.o ak (ay.o.drop_ c1) (by rw [aw.o];exact av.o) zb zb zb hK).mono ?_);rintro eo w8 ⟨g8,rfl,hg8,ah,hb⟩;rw [aw.o,bl.o] at ah;refine m.out _ _ (Cs.below hHeld hb) (λhHeld=>?_);have u:=HS.o.lt;have HS:=za (HS.o.below hb);have a:=za (zg hb a.o);have HB:=za (HB.o.trans (hb.mono (qG u)));have t:=za (t.o.keep hb);have aq:=za ah;clear m KK hb ah hL aj ak u;refine rc 28 (λKK m=>?_);obtain⟨w9,bc,al,ao,O,V⟩:=yh.copied (c1:=c1) (d:=n - c1) t.o aq.o zb zb 41 41 3 underlying41;rw [<-bo.o] at ao;have Q:qp.getD (c1+i) 0=u7:=bs.o;have y:=HS.o.turnQ hr (by rw [Q];exact al) (by rw [Q];exact ao);have y:zw w9 g n {pk with S:=(wN c pk.S i).set (c1+i) (vL c (zD (zl pk.S) c) (pk.S.getD (c1+i) []) (pk.S.getD c []))} (some ⟨gA,0,none⟩) n cA (some ⟨gB,0,none⟩) n cB (some ⟨gD,0,none⟩) n cD y0 y1 y2 qp:=y;rw [ab.o] at y;obtain⟨be,_,bf,_⟩:=HS.o.atQ (q:=u7) (by rw [<-Q];exact lC (by rw [HS.o.rows.len,HS.o.hn];exact hr));have af:=al.2 _ _ _ (Ne.symm (xi bf a.o zf)) a.o;have a5:=V _ _ (qG be) HB.o;have ba:c*3+2<c1*3:=zb;have D:=y.rowAt hc;rw [bt.o] at D;have p0:=y.c0;have q0:=af.c1;dsimp only [Cs] at hHeld;obtain⟨-,-,-,t3,t4,t5,-⟩:=hHeld;have q3:=(O (c*3) zb).trans t3;have q4:=(O (c*3+1) zb).trans t4;have q5:=(O (c*3+2) ba).trans t5;refine fW (.tmp 41) (.tmp 65) 41 41 rfl rfl rfl bc ?_;refine m.out _ _ (zk p0 (zk q0 (zk D.1 (zk q3 (zk q4 (zk q5 zQ)))))) (λhHeld=>?_);have br:=za y;have bn:=za af;have bk:=za a5;clear m KK bc V al ao O Q y be bf af a5 D p0 q0 q3 q4 q5 t3 t4 t5;refine zN ?_;clear hHeld HS a HB HX t N aq ab;go_wp2;go_roundg (n - i)
     case measure=>omega
     case rel=>exact⟨i+1,zb,zb,by go_num,br.o,bk.o,bn.o⟩
    ·have bx:i=n - c1:=zb;have d4:decide ((i:Int)<((n - c1:Nat):Int))=false:=decide_eq_false zb;have d5:¬(i<n - c1):=zb;have o:=Xo (c:=c) (i:=i) s.o (by have:=z.o;omega);rw [o] at hS;have HF:=za hS;have HB:=za hB;clear hS hB m bx o;go_wp2;go_ret;exact⟨rfl,⟨_,_,_,_,HF.o⟩,HB.o⟩
end
