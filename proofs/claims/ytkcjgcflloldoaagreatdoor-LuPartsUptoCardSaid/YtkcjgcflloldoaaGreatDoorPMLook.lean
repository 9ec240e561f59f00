/- What this claim leans on. -/
import Derived.Test.YtkcjgcflloldoaaGreatDoorPLXchg
set_option linter.unusedVariables false
set_option linter.unusedSimpArgs false
namespace Go.Proofs.YtkcjgcflloldoaaGreatDoor
open Go Go.RowKit Go.Proofs.Tryz
set_option maxHeartbeats 16000000
set_option maxRecDepth 100000
variable {e:xh}{M xs ys:List (List Rat)}{qs:List Nat}{K c cA cB cD g k m n:Nat}{x0 x1 x2:Value}{w:World}{A B D:ze}
theorem Nx {r:Int}{b:Bool}(e:kT r n=b)(A:ze)(c:Nat)(z:Int)(w:World):Calls prog 52 #[.agg #[.slice A n c,.int .i64 z],.int .i64 r] w (λe w'=>e=.returned (.bool b)/\Below w.heap.size w w'):=e▸PC A n c z r w
section
variable {A:ze}{n c m K:Nat}{MM:List (List Rat)}{w:World}
theorem mT {i:Nat}(hT:zu w)(h:wG w A n c m MM)(z:yc K MM)(hi:i<n)(hK:K+2<=67108864:=by omega):
  Calls prog 16 #[.agg #[.slice A n c,.int .i64 (m:Int)],.int .i64 (i:Int)] w (oV w m (MM.getD i [])):=by
 have hm:=h.hm;obtain⟨j,g,bz⟩:=zw w 28 #[.slice A n c,.int .i64 (m:Int)];obtain⟨g0,g1⟩:=g.c2;have HR:=λW=>zb (Nx (mt hi) A c (m:Int) W);have HM:=zb h;have HT:=zj w (λw' hb=>hT.on hb);have HS:=zb (z.row (i:=i) (by rw [h.dims.rows];exact hi));have HB:=zb j;have HK:=zb g;clear hT h z j g bz;unfold oV;go_enter func16,ntmps16;go_wp2_with fail;refine(HR _).o.mono ?_;rintro e w1 ⟨rfl,hb⟩;have a:=zb (zc HB.o hb);obtain⟨g0,g1⟩:=(zg hb HK.o).c2;obtain⟨ad,B,d,rfl,-,hc,hv⟩:=HM.o.row a.o hi;have i1:(0:Int)<=(i:Int):=za;have i2:(i:Int)<(n:Int):=za;have HV:=zb hv;clear hb HB HK hv;go_wp2_with fail;(with_reducible refine(TR (HT.o _ a.o) HV.o HS.o).mono ?_);rintro e w5 ⟨g5,rfl,k,o,hb⟩;have HG:=zb (And.intro (qD a.o.size k) (And.intro o (zc a.o hb)));clear g0 g1 k o hb hc;go_wp2
 go_ret2
 exact⟨g5,rfl,HG.o⟩
end
section
variable {A A':ze}{n n' c c' m m' K K' q q':Nat}{MM NN:List (List Rat)}{w:World}
theorem qq:∀(args:Array Value) (w':World),Sem.run prog (callFunc 23 args) w'=.ok (.enter 23 args) w':=Go.Proofs.enters_of func23 zU rfl
theorem ol {α:Type}{xs ys:List α}{n':Nat}(hx:xs.length=n)(hy:ys.length=n')(h:n≠n'):xs≠ys:=λe=>h (by rw [<-hx,<-hy,e])
theorem lz (hx:xs.length=n)(hy:ys.length=n)(hk:k<n)(h:xs.getD k []≠ys.getD k []):xs≠ys:=λe=>h (by rw [e])
theorem oj (hx:xs.length=n)(hy:ys.length=n)(h:∀k,k<n->xs.getD k []=ys.getD k []):xs=ys:=by
 apply YX
 ·omega
 ·intro i h1 h2;have:=h i za;rw [qQ,qQ,qY h1,qY h2] at this;exact this
theorem Pi {t:Bool}(e:decide (MM=NN)=t)(hT:zu w)(h:xi (zZ zp) w A n MM)(h':xi (zZ zp) w A' n' NN)(z:yc K MM)(z':yc K' NN)(hr:∀L ∈ MM,L.length<=64)(D:∀L ∈ NN,L.length<=64)(hn:n<=64)(hK:K<=67108864)(E:K'<=67108864):
  Calls prog 76 #[.slice A n q,.slice A' n' q',.func (.func 23) #[] #[]] w (λe w'=>e=.returned (.bool t)/\Below w.heap.size w w'):=by
 have hl:=h.len;have m:=h'.len;have hEn:=qq;by_cases hq:n=n'
 ·subst hq;have HA:=zb h;have I:=zb h';have HT:=zj w (λw' hb=>hT.on hb);have HS:zd (∀i,i<n->zN K (MM.getD i [])):=λi hi=>z.row za;have O:zd (∀i,i<n->zN K' (NN.getD i [])):=λi hi=>z'.row za;have HR:zd (∀i,i<n->(MM.getD i []).length<=64):=λi hi=>hr _ (QY (vi za));have N:zd (∀i,i<n->(NN.getD i []).length<=64):=λi hi=>D _ (QY (vi za));have M:zd (∀k,k<n->MM.getD k []≠NN.getD k []->false=t):=λk hk R=>by
   rw [<-e];exact(decide_eq_false (lz hl m hk R)).symm
  have J:zd ((∀k,k<n->MM.getD k []=NN.getD k [])->true=t):=λha=>by
   rw [<-e];exact(decide_eq_true (oj hl m ha)).symm
  have hB:=qZ w.heap.size w;have e0:((n:Int) !=(n:Int))=false:=zG;have i0:(0:Int)<=(n:Int):=za;clear h h' hT z z' hr D e hl m;go_enter func76,ntmps76;go_wp2_with fail
  go_loopg [17] (n+1) (λg ix wr=>∃(k:Nat),k<=n/\n<g+k/\ix=.int .i64 k/\zd (∀i,i<k->MM.getD i []=NN.getD i [])/\Below w.heap.size w wr)
  case atStart=>exact⟨0,QQ _,za,rfl,λi hi=>by omega,hB⟩
  case round=>
   clear hB;obtain⟨k,hkn,hg,rfl,H,hB⟩:=hrel;by_cases hlt:k<n
   ·obtain⟨ad,B,d,rfl,-,hc,hv⟩:=HA.o.get (yk yt) hB hlt rfl;obtain⟨ad',B',d',rfl,-,s,u⟩:=I.o.get (yk yt) hB hlt rfl;have Q:decide ((k:Int)<(n:Int))=true:=decide_eq_true za;have i1:(0:Int)<=(k:Int):=za;have i2:(k:Int)<(n:Int):=za;have h5:=HR.o k hlt;have h6:=N.o k hlt;have v:=zb (M.o k hlt);have y:=zb (HS.o k hlt);have j:=zb (O.o k hlt);have C:zd (MM.getD k []=NN.getD k []->∀i,i<k+1->MM.getD i []=NN.getD i []):=λhh i hi=>by
     by_cases e:i=k
     ·rw [e];exact hh
     ·exact H.o i za
    obtain⟨X,hX⟩:∃X,MM.getD k []=X:=⟨_,rfl⟩;obtain⟨Y,hY⟩:∃Y,NN.getD k []=Y:=⟨_,rfl⟩;rw [hX] at hc hv h5 v y C;rw [hY] at s u h6 v j C;obtain⟨lx,F⟩:∃l,X.length=l:=⟨_,rfl⟩;obtain⟨ly,G⟩:∃l,Y.length=l:=⟨_,rfl⟩;rw [F] at hc hv h5;rw [G] at s u h6;have HV:=zb hv;have o:=zb u;have a:=zb hB;clear hX hY hv u F G hB;by_cases h0:X=Y
    ·have HQ:=zb (decide_eq_true h0);have P:=zb (C.o h0);clear h0;go_wp2_with fail;(with_reducible refine(aK HQ.o (HT.o _ a.o) HV.o o.o y.o j.o za za hK E).mono ?_);rintro e w3 ⟨rfl,hb⟩;have c:=zb (zc a.o hb);clear hb hc s HV o a;go_wp2;go_roundg (n - k)
     case measure=>omega
     case rel=>exact⟨k+1,za,za,by go_num,P,c.o⟩
    ·have HQ:=zb (decide_eq_false h0);have HF:=zb (v.o h0);clear h0;go_wp2_with fail;(with_reducible refine(aK HQ.o (HT.o _ a.o) HV.o o.o y.o j.o za za hK E).mono ?_);rintro e w3 ⟨rfl,hb⟩;have c:=zb (zc a.o hb);clear hb hc s HV o a;go_wp2;go_ret;exact⟨by rw [<-HF.o];rfl,c.o⟩
   ·have hk:k=n:=za;subst hk;have Q:decide ((k:Int)<(k:Int))=false:=zG;have HF:=zb (J.o H.o);have c:=zb hB;clear hB;go_wp2;go_ret;exact⟨by rw [<-HF.o];rfl,c.o⟩
 ·have e0:((n:Int) !=(n':Int))=true:=by rw [bne_iff_ne];omega
  have HF:zd (false=t):=by rw [<-e];exact(decide_eq_false (ol hl m hq)).symm
  clear h h' hT z z' hr D e hl m hq;go_enter func76,ntmps76;go_wp2;go_ret;exact⟨by rw [<-HF.o];rfl,qZ _ _⟩
theorem pz {t:Bool}(e:decide (m=m'/\MM=NN)=t)(hT:zu w)(h:wG w A n c m MM)(h':wG w A' n' c' m' NN)(z:yc K MM)(z':yc K' NN)(hK:K<=67108864:=by omega)(j:K'<=67108864:=by omega):
  Calls prog 29 #[.agg #[.slice A n c,.int .i64 (m:Int)],.agg #[.slice A' n' c',.int .i64 (m':Int)]] w (λe w'=>e=.returned (.bool t)/\Below w.heap.size w w'):=by
 obtain⟨a,d,g,bz⟩:=z8 w 28 28 #[.slice A n c,.int .i64 (m:Int)] #[.slice A' n' c',.int .i64 (m':Int)];obtain⟨g0,g1⟩:=d.c2;obtain⟨p0,p1⟩:=g.c2;by_cases hq:m=m'
 ·have e0:((m:Int)==(m':Int))=true:=by rw [beq_iff_eq];omega
  have e1:decide (MM=NN)=t:=by
   rw [<-e];by_cases hx:MM=NN
   ·rw [decide_eq_true hx,decide_eq_true ⟨hq,hx⟩]
   ·rw [decide_eq_false hx,decide_eq_false (λy=>hx y.2)]
  have hx:=h.hm;have hy:=h'.hm;have H:=zb (Pi (q:=c) (q':=c') e1 (hT.on a) (h.keep a).rows (h'.keep a).rows z z' (λL hL=>by rw [h.dims.cols L hL];exact hx) (λL hL=>by rw [h'.dims.cols L hL];exact hy) h.hn hK j);have HB:=zb a;clear h h' hT z z' a d g bz e e1 hq;go_enter func29,ntmps29;go_wp2_with fail;refine H.o.mono ?_;rintro e w1 ⟨rfl,hb⟩;have i:=zb (zc HB.o hb);clear hb g0 g1 p0 p1;go_wp2;go_ret;exact⟨rfl,i.o⟩
 ·have e0:((m:Int)==(m':Int))=false:=by rw [beq_eq_false_iff_ne];omega
  have HF:zd (false=t):=by rw [<-e];exact(decide_eq_false (λy=>hq y.1)).symm
  have HB:=zb a;clear h h' hT z z' a d g bz e hq;go_enter func29,ntmps29;go_wp2;go_ret;exact⟨by rw [<-HF.o];rfl,HB.o⟩
end
theorem Y3 {α:Type}{L:List α}{x:α}(h:L[k]?=some x):L.take (k+1)=L.take k++[x]:=by
 have a:=(List.getElem?_eq_some_iff.1 h).1;rw [qC a];congr 1;rw [qY a] at h;injection h with h;rw [h]
theorem qf (h:k<n):(uR n M c)[k]?=some (zn M k c):=by
 unfold uR;rw [qW,xD h];rfl
theorem TD {j:Nat}(h:xj w A n c m M)(hj:j<m):
  Calls prog 136 #[.agg #[.slice A n c,.int .i64 (m:Int)],.int .i64 (j:Int)] w (Wf w n (uR n M j)):=by
 obtain⟨ac,ab,N,O,P⟩:=info_parts Sy;have hn0:n<=64:=h.hn;have hm0:m<=64:=h.hm;have HS:zd (∀k,k<n->(uR n M j).take (k+1)=(uR n M j).take k++[zn M k j]):=λk hk=>Y3 (qf hk);have HL:zd ((uR n M j).length=n):=cR n M j;obtain⟨C,hC⟩:∃C,uR n M j=C:=⟨_,rfl⟩;rw [hC] at HS HL⊢;obtain⟨D,E,bz⟩:=zw w 33 #[.slice A n c,.int .i64 (m:Int)];have HM:=zb (h.keep D);obtain⟨g0,g1⟩:=E.c2;have Q:=zb D;have HK:=zb E;have i3:(0:Int)<=(j:Int):=za;have i4:(j:Int)<(m:Int):=za;unfold Wf;clear h hC D E bz;go_enter func136,ntmps136;go_wp2_with fail;generalize w.alloc (.cells #[.slice A n c,.int .i64 (m:Int)] 33)=W1 at*;have hB:=qZ W1.heap.size W1;clear g0 g1
 go_loopg [5,6] (n+1) (λg sl ix wr=>∃(k:Nat) (v:Value) (vs:List Value),k<=n/\n<g+k/\ix=.int .i64 k/\v=sl/\yx xd wr W1.heap.size 43 v (C.take k) vs/\Below W1.heap.size W1 wr)
 case atStart=>exact⟨0,_,_,QQ _,za,rfl,rfl,yx.nil _ _ _,hB⟩
 case round=>
  clear hB;obtain⟨k,v,vs,hkn,hg,rfl,rfl,s,hB⟩:=hrel;obtain⟨g0,g1⟩:=(zg hB HK.o).c2;by_cases hlt:k<n
  ·obtain⟨ad,B,d,rfl,-,hc0,ae,b1,B1,m1,d1,E1,u1,v1,rfl,-,hc1,hc2,hc3,hq⟩:=HM.o.place hB hlt hj;have X:=zb (HS.o k hlt);have aa:decide ((k:Int)<(n:Int))=true:=decide_eq_true za;have K:decide (k<n)=true:=decide_eq_true hlt;have i1:(0:Int)<=(k:Int):=za;have i2:(k:Int)<(n:Int):=za;have L:(C.take k).length=k:=by rw [qL,HL.o];omega
   have G:=zb L;obtain⟨t1,t2,-⟩:=zw wr 43 #[.bool b1,.slice B1 m1 d1,.slice E1 u1 v1];have a:=yx.below wf s t1;have HX:=zb (xd.below hq t1);have HB:=zb (zc hB t1);have z:=zb (bW t2);have I:=zb (Zn b1 B1 E1 m1 d1 u1 v1);have T:=zb (Zm b1 B1 E1 m1 d1 u1 v1);have Y:=zb aY;have F:=zb HB.o.size;have t:=a.own;rw [G.o] at t;have J:=zb t;have H:=zb a.nou;have U:=zb (λr (h:v.ownBlock=some r)=>a.own.lt r h);have V:=zb a;clear s a hq hB t1 t2 t L;go_upto_region 5 with fail;go_wp2_with (at_builtin;go_loud (refine WS _ rfl (.tmp 14) (.tmp 23) 78 rfl W1.heap.size 43 ac (.agg #[.bool false,.slice none 0 0,.slice none 0 0]) 3 56 underlying78 ab N O P rfl zf v k vs rfl J.o ⟨wr.heap.size,0,none⟩ 1 1 [.bool b1,.slice B1 m1 d1,.slice E1 u1 v1] rfl rfl z.o I.o (by unfold maxLen;omega) za F.o H.o Y.o T.o ?_;intro v' w8 u i Z o;have y:=zb (yx.grow (n:=k+1) wf V.o HX.o u (by rw [G.o]) i o);have S:=zb (HB.o.grown i F.o (λr hr=>(U.o r hr).1));clear u i Z o));rw [<-X.o] at y;go_roundg (n - k)
   case measure=>omega
   case rel=>exact⟨k+1,_,_,za,za,by go_num,rfl,y.o,S.o⟩
  ·have hk:k=n:=za;subst hk;have aa:decide ((k:Int)<(k:Int))=false:=zG;have K:decide (k<k)=false:=zG;rw [qV (by rw [HL.o];exact qX _)] at s;obtain⟨A1,c1,rfl,hv,hf⟩:=s.shape;rw [HL.o] at hv⊢;have HV:=zb hv;have R:=zb (zc Q.o hB);clear s hv hB hf;go_wp2;go_ret;exact⟨A1,c1,rfl,HV.o,R.o⟩
theorem VO {c:Nat}(hn:e.S.length=n):vF c (e.S.drop c)=if wI c e<n - c then((wI c e:Nat):Int) else -1:=by
 unfold vF wI;rw [xK,hn]
theorem y4.msz (h:y4 n c K M e):yc (67+65*K) e.S:=λL hL x hx=>by
 obtain⟨i,hi,rfl⟩:=List.mem_iff_getElem.1 hL;obtain⟨j,hj,rfl⟩:=List.mem_iff_getElem.1 hx;have a:i<n:=by rw [<-h.dims.rows];exact hi
 have hr:=h.dims.row a;have e1:e.S.getD i []=e.S[i]:=by rw [qQ,qY hi];rfl
 rw [e1] at hr;have:=h.li i a j za;unfold zn at this;rw [e1,qQ,qY hj] at this;exact this.szq za
theorem zF.c0 {l:Nat}(h:zF w g m e A n cA B k cB D l cD x0 x1 x2 qs):w.cell? ⟨g,0,none⟩=some (.slice A n cA):=h.blk.cell 0
theorem zF.lines {l:Nat}(h:zF w g m e A n cA B k cB D l cD x0 x1 x2 qs)(hm:m<=9223372036854775807):n<=cA/\cA<=9223372036854775807/\xi (zZ zp) w A n e.S:=by
 obtain⟨A',c',hA,h1,h2,h3,_⟩:=h.rows.shape h.hn hm;injection hA with a1 a2 a3;subst a1 a3;exact⟨h1,h2,h3⟩
theorem NG (h:y4 n c K M e)(hM:zQ M n n)(hn:n<=64)(hW:xm K M)(hc:c<n)(g:zn e.S c c≠0)(i:Nat):yc (67+65*K) (va c e.S i):=λL hL x hx=>by
 unfold va at hL;obtain⟨j,hj,rfl⟩:=List.mem_mapIdx.1 hL;have a:j<n:=by rw [<-h.dims.rows];exact hj
 have e1:e.S.getD j []=e.S[j]:=by rw [qQ,qY hj];rfl
 split at hx
 ·next hcj=>
  have hlen:(uL c (zK (zn e.S) c) e.S[j] (e.S.getD c [])).length=n:=aG (by rw [<-e1];exact h.dims.row a) (h.dims.row hc) hc;obtain⟨k,hk,rfl⟩:=List.mem_iff_getElem.1 hx;have d:k<n:=za;have hs:vn n n (c+1) (aF M e) (zn (vk c e.S)):=h.sz.step hc hc g (λi h1 h2 j h3 h4=>by rw [Zl h.dims hc h2 h4];unfold uO;rw [if_pos ⟨h1,h3⟩]) (by rw [Zl h.dims hc hc hc];unfold uO;rw [if_neg za]);have e3:(uL c (zK (zn e.S) c) e.S[j] (e.S.getD c []))[k]=zn (vk c e.S) j k:=by
   have h9:(vk c e.S).getD j []=uL c (zK (zn e.S) c) e.S[j] (e.S.getD c []):=by rw [Yt (by rw [h.dims.rows];exact a),if_pos hcj.1,e1]
   have h8:∀(L:List Rat) (q:k<L.length),L[k]=L.getD k 0:=λL q=>by rw [qQ,qY q];rfl
   refine(h8 _ hk).trans ?_;show _=((vk c e.S).getD j []).getD k 0;rw [h9]
  rw [e3];by_cases hck:c<k
  ·exact(hs.at_ hn (h.ali hM hW) hcj.1 a hck d).szq za
  ·rw [Zl h.dims hc a d];unfold uO;rw [if_neg za];exact(h.li j a k d).szq za
 ·exact h.msz _ (xM hj) x hx
theorem zN.drop_ {xs:List Rat}(h:zN K xs)(k:Nat):zN K (xs.drop k):=λx hx=>h x (XA hx)
section
variable {w:World}{g n c K:Nat}{e:xh}{M:List (List Rat)}{cA cB cD gA gB gD:Nat}{x0 x1 x2:Value}{qs:List Nat}
theorem Py (hT:zu w)(h:zF w g n e (some ⟨gA,0,none⟩) n cA (some ⟨gB,0,none⟩) n cB (some ⟨gD,0,none⟩) n cD x0 x1 x2 qs)(k:y4 n c K M e)(hc:c<n)(hn:n<=64)(hb:¬wI c e<n - c)(hK:67+65*K<=67108864):
  Calls prog 37 #[.pointer (some ⟨g,0,none⟩),.int .i64 (c:Int)] w (λeo w'=>eo=.returned (.bool false)/\Below g w w'):=by
 obtain⟨hnc,hcm,hL⟩:=h.lines za;have hz:=k.msz;have d:=VO (c:=c) h.hn;rw [if_neg hb] at d;obtain⟨a,i,-⟩:=zw w 3 #[.int .i64 (c:Int)];have HI:zd (∀W,Below (w.alloc (.cells #[.int .i64 (c:Int)] 3)).heap.size (w.alloc (.cells #[.int .i64 (c:Int)] 3)) W->Calls prog 86 #[.slice (some ⟨gA,c,none⟩) (n - c) (cA - c),.func (.func 87) #[] #[.pointer (some ⟨w.heap.size,0,none⟩)]] W (λeo w'=>eo=.returned (.int .i64 (-1))/\Below W.heap.size W w')):=λW hW=>by
  have hD:=(hL.below (yk yt) (zc a hW)).drop_ (QK hc);rw [show Option.map (λx:Addr=>x.add c) (some ⟨gA,0,none⟩)=some ⟨gA,c,none⟩ from congrArg some (wu gA c)] at hD;have hI:=VD (q:=cA - c) (hT.on (zc a hW)) hD (zg hW i) hc (λL hL=>k.dims.cols L (XA hL)) (λL hL=>hz L (XA hL)) za hK;rw [d] at hI;exact hI
 have hmf:=Wu;have HG:=zb h.lt;have HS:=zb (h.below a);have o:=zb i;have HB:=zb a;have i1:(0:Int)<=(c:Int):=za;have i2:(c:Int)<=(n:Int):=za;have i3:(n:Int)<=(cA:Int):=za;have i4:(c:Int)<=(cA:Int):=za;have hck:¬(cA=c):=za;clear hT h k hz d hL a i hb;go_enter func37,ntmps37;go_upto_region 1 with fail;have p0:=HS.o.c0;have q0:=o.o.c1;generalize w.alloc (.cells #[.int .i64 (c:Int)] 3)=W1 at*;have j:=(qZ W1.heap.size W1).drew;refine rg (zk p0 (zk q0 zO)) (λhHeld=>?_);have HI:=zb (HI.o _ j);have HB:=zb (zc HB.o j);clear p0 q0 j;generalize W1.drew=D1 at*;refine tk 0 ?_;refine tk 1 ?_;refine tk 2 ?_;refine tk 3 ?_;refine tk 4 ?_;refine tk 5 ?_;refine tk 6 ?_;refine rc 7 (λKK m=>?_);go_simp;(with_reducible refine HI.o.mono ?_);rintro eo w1 ⟨rfl,hb⟩;refine m.out _ _ (Cs.below hHeld hb) (λhHeld=>?_);have HB:=zb (zc HB.o hb);clear m KK hb HI;refine tk 8 ?_;refine z4 ?_;clear hHeld;go_wp2;go_ret;exact⟨rfl,HB.o.mono (QK HG.o)⟩
theorem Q8 (hT:zu w)(h:zF w g n e (some ⟨gA,0,none⟩) n cA (some ⟨gB,0,none⟩) n cB (some ⟨gD,0,none⟩) n cD x0 x1 x2 qs)(F:y4 n c K M e)(hM:zQ M n n)(hW:xm K M)(bd:0<g)(hc:c<n)(hn:n<=64)(hb:wI c e<n - c)(hK:67+65*K<=8388608):
  Calls prog 37 #[.pointer (some ⟨g,0,none⟩),.int .i64 (c:Int)] w (λeo w'=>eo=.returned (.bool true)/\(∃y0 y1 y2 ap,zF w' g n (fI c e) (some ⟨gA,0,none⟩) n cA (some ⟨gB,0,none⟩) n cB (some ⟨gD,0,none⟩) n cD y0 y1 y2 ap)/\Below g w w'):=by
 obtain⟨hnc,hcm,hL⟩:=h.lines za;have hz:=F.msz;have E:=VO (c:=c) h.hn;rw [if_pos hb] at E;obtain⟨A,ac,-⟩:=zw w 3 #[.int .i64 (c:Int)];have HI:zd (∀W,Below (w.alloc (.cells #[.int .i64 (c:Int)] 3)).heap.size (w.alloc (.cells #[.int .i64 (c:Int)] 3)) W->Calls prog 86 #[.slice (some ⟨gA,c,none⟩) (n - c) (cA - c),.func (.func 87) #[] #[.pointer (some ⟨w.heap.size,0,none⟩)]] W (λeo w'=>eo=.returned (.int .i64 ((wI c e:Nat):Int))/\Below W.heap.size W w')):=λW hW=>by
  have hD:=(hL.below (yk yt) (zc A hW)).drop_ (QK hc);rw [show Option.map (λx:Addr=>x.add c) (some ⟨gA,0,none⟩)=some ⟨gA,c,none⟩ from congrArg some (wu gA c)] at hD;have hI:=VD (q:=cA - c) (hT.on (zc A hW)) hD (zg hW ac) hc (λL hL=>F.dims.cols L (XA hL)) (λL hL=>hz L (XA hL)) za za;rw [E] at hI;exact hI
 have bz:=Wu;have HG:=zb h.lt;have HS:=zb (h.below A);have a:=zb ac;have HB:=zb A;have i1:(0:Int)<=(c:Int):=za;have i2:(c:Int)<=(n:Int):=za;have i3:(n:Int)<=(cA:Int):=za;have i4:(c:Int)<=(cA:Int):=za;have hck:¬(cA=c):=za;obtain⟨v,G⟩:=F.pick hb;obtain⟨b,ad⟩:∃b,wI c e=b:=⟨_,rfl⟩;have ai:o7 c e=if b=0 then e else⟨yy [] c (c+b) e.S,yy 0 c (c+b) e.T,yy 0 c (c+b) e.P,-e.rd⟩:=by unfold o7;rw [ad]
 rw [ad] at HI hb;have Z:zd (fI c e={o7 c e with S:=vk c (o7 c e).S}):=rfl;obtain⟨pk,Y⟩:∃pk,o7 c e=pk:=⟨_,rfl⟩;rw [Y] at v G ai Z;have aa:=zb ai;have ax:=zb v.msz;have ar:=zb v.dims;have s:zd (pk.S.length=n):=v.dims.rows;have av:=zb (v.inv.pr (qX c));have bp:zd (∀i,yc (67+65*K) (va c pk.S i)):=λi=>by
  have hnx:=v;intro L hL x hx;exact NG v hM hn hW hc G i L hL x hx
 have az:zd (zm (1+64*K) e.rd):=by
  have hr:zm (1+64*K) (uj M):=by
   have:=aR hW M.length (qX _);rw [List.take_length] at this;exact(this.up (yJ (qE _ (by rw [hM.rows];exact hn)) _)).szq za
  rcases F.rd with e1|e1<;>rw [e1]
  ·exact hr
  ·exact hr.neg
 rw [Z.o];have HT:=zb (λw' (hb:Below g w w')=>St hT bd hb);have ag:gD≠w.heap.size/\gA≠w.heap.size/\gB≠w.heap.size:=by
  obtain⟨_,cs,h1,_⟩:=h.rows.at_ (q:=gA) rfl;obtain⟨_,ds,h2,_⟩:=h.atB (q:=gB) rfl;obtain⟨_,es,h3,_⟩:=h.atD (q:=gD) rfl;have:=h1.lt;have:=h2.lt;have:=h3.lt;omega
 obtain⟨hgA,hgB,hgD⟩:=h.apart;clear hT h F hz E hL A ac v G ai Y ad Z;go_enter func37,ntmps37;go_upto_region 1 with fail;have p0:=HS.o.c0;have q0:=a.o.c1;generalize w.alloc (.cells #[.int .i64 (c:Int)] 3)=W1 at*;have j:=(qZ W1.heap.size W1).drew;refine rg (zk p0 (zk q0 zO)) (λhHeld=>?_);have HI:=zb (HI.o _ j);have HS:=zb (HS.o.below j);have a:=zb (zg j a.o);have HB:=zb (zc HB.o j);clear p0 q0 j;generalize W1.drew=D1 at*;refine tk 0 ?_;refine tk 1 ?_;refine tk 2 ?_;refine tk 3 ?_;refine tk 4 ?_;refine tk 5 ?_;refine tk 6 ?_;refine rc 7 (λKK m=>?_);go_simp;(with_reducible refine HI.o.mono ?_);rintro eo w1 ⟨rfl,hb⟩;refine m.out _ _ (Cs.below hHeld hb) (λhHeld=>?_);have HS:=zb (HS.o.below hb);have a:=zb (zg hb a.o);have HB:=zb (zc HB.o hb);clear m KK hb HI;refine tk 8 ?_;refine z4 ?_;clear hHeld;have HB:=zb (HB.o.mono (QK HG.o));have d1:decide ((b:Int)<0)=false:=decide_eq_false za;go_upto_if 19 with fail
 go_cut [20,21,22,23,24,25] (λs20 s21 s22 s23 s24 s25 wx=>(∃y0 y1 y2 ap,zF wx g n pk (some ⟨gA,0,none⟩) n cA (some ⟨gB,0,none⟩) n cB (some ⟨gD,0,none⟩) n cD y0 y1 y2 ap)/\zh wx w.heap.size 3 #[.int .i64 (c:Int)]/\Below g w wx)
 case first=>
  have q0:=a.o.c1;by_cases hb0:b=0
  ·have d2:decide ((0:Int)<(b:Int))=false:=decide_eq_false za;have d3:decide ((b:Int)>0)=false:=decide_eq_false za;have hS:pk=e:=by rw [aa.o,if_pos hb0]
   go_wp2;go_meet;exact⟨⟨_,_,_,_,by rw [hS];exact HS.o⟩,a.o,HB.o⟩
  ·have d2:decide ((0:Int)<(b:Int))=true:=decide_eq_true za;have d3:decide ((b:Int)>0)=true:=decide_eq_true za;have hS:pk=⟨yy [] c (c+b) e.S,yy 0 c (c+b) e.T,yy 0 c (c+b) e.P,-e.rd⟩:=by rw [aa.o,if_neg hb0]
   have au:=zb hS;clear hS;obtain⟨cb,a8⟩:∃q,c+b=q:=⟨_,rfl⟩;have j1:(c:Int)+(b:Int)=((cb:Nat):Int):=za;have a9:cb<n:=za;have bb:c≠cb:=za;rw [a8] at au;clear a8;go_wp2_with fail;clear q0;(with_reducible refine(Q6 (L:=1+64*K) (HT.o _ HB.o) HS.o bd hc a9 bb za az.o za).mono ?_);rintro eo w2 ⟨rfl,⟨y0,y1,y2,hs⟩,a4,ho⟩;have bq:zd (zF w2 g n pk (some ⟨gA,0,none⟩) n cA (some ⟨gB,0,none⟩) n cB (some ⟨gD,0,none⟩) n cD y0 y1 y2 (yy 0 c cb qs)):=by show zF _ _ _ _ _ _ _ _ _ _ _ _ _ _ _ _ _;rw [au.o];exact hs
   have bm:=zb (ho _ _ _ (Ne.symm (Nat.ne_of_lt HG.o)) (Ne.symm ag.2.1) (Ne.symm ag.2.2) (Ne.symm ag.1) a.o);have bj:=zb (HB.o.trans a4);clear hs a4 ho HS HB a;go_wp2;go_meet;exact⟨⟨_,_,_,_,bq.o⟩,bm.o,bj.o⟩
 case rest=>
  obtain⟨⟨y0,y1,y2,qp,hs⟩,hk,hB⟩:=hcut;obtain⟨wk,b0⟩:∃x,x=wc:=⟨_,rfl⟩;subst b0;have HS:=zb hs;have a:=zb hk;have HB:=zb hB;clear hs hk hB aa az bz d1;obtain⟨c1,a6⟩:∃c1,c+1=c1:=⟨_,rfl⟩;have j1:IntKind.i64.wrap ((c:Int)+1)=(c1:Int):=by rw [QS _ za];omega
  have j1b:IntKind.i64.wrap (c1:Int)=(c1:Int):=by rw [QS _ za]
  have j2:(0:Int)<=(c1:Int):=za;have j3:(c1:Int)<=(n:Int):=za;have j4:(c1:Int)<=(cA:Int):=za;have z:=zb a6;have X:c1<=n:=za;have hcc:c<c1:=za;clear a6;go_upto_region 6 with fail;have p0:=HS.o.c0;have q0:=a.o.c1;have j:=(qZ wk.heap.size wk).drew;refine rg (zk p0 (zk q0 zO)) (λhHeld=>?_);have u:=HS.o.lt;have HS:=zb (HS.o.below j);have a:=zb (zg j a.o);have HB:=zb (HB.o.trans (j.mono (QK u)));clear p0 q0 j u;generalize wk.drew=D6 at*;by_cases hck2:cA=c1
  ·have hn1:n - c1=0:=za;subst hck2;have o:=VR (c:=c) (i:=0) s.o (by have:=z.o;omega);rw [VE] at o;have HF:zd (zF D6 g n {pk with S:=vk c pk.S} (some ⟨gA,0,none⟩) n cA (some ⟨gB,0,none⟩) n cB (some ⟨gD,0,none⟩) n cD y0 y1 y2 qp):=by show zF _ _ _ _ _ _ _ _ _ _ _ _ _ _ _ _ _;rw [<-o];exact HS.o
   clear o;refine tk 0 ?_;refine tk 1 ?_;refine tk 2 ?_;refine tk 3 ?_;refine tk 4 ?_;refine tk 5 ?_;refine tk 6 ?_;refine tk 7 ?_;refine tk 8 ?_;refine z4 ?_;clear hHeld;have C:=HF.o;have B:=HB.o;clear HS a HF HB;go_wp2_with fail
   go_loopg [34] (n+1) (λgg ix wr=>ix=.int .i64 0/\zF wr g n {pk with S:=vk c pk.S} (some ⟨gA,0,none⟩) n cA (some ⟨gB,0,none⟩) n cB (some ⟨gD,0,none⟩) n cD y0 y1 y2 qp/\Below g w wr)
   case atStart=>exact⟨rfl,C,B⟩
   case round=>
    clear C B;obtain⟨rfl,hS,hB⟩:=hrel;have HF:=zb hS;have HB:=zb hB;clear hS hB;go_wp2;go_ret;exact⟨rfl,⟨_,_,_,_,HF.o⟩,HB.o⟩
  ·have C:zF D6 g n {pk with S:=va c pk.S 0} (some ⟨gA,0,none⟩) n cA (some ⟨gB,0,none⟩) n cB (some ⟨gD,0,none⟩) n cD y0 y1 y2 qp:=by rw [VE];exact HS.o
   have a2:=a.o;have B:=HB.o;clear HS a HB;refine tk 0 ?_;refine tk 1 ?_;refine tk 2 ?_;refine tk 3 ?_;refine tk 4 ?_;refine tk 5 ?_;refine tk 6 ?_;refine tk 7 ?_;refine tk 8 ?_;refine z4 ?_;clear hHeld;go_wp2_with fail
   go_loopg [34] (n+1) (λgg ix wr=>∃(i:Nat),i<=n - c1/\n<gg+i/\ix=.int .i64 i/\zF wr g n {pk with S:=va c pk.S i} (some ⟨gA,0,none⟩) n cA (some ⟨gB,0,none⟩) n cB (some ⟨gD,0,none⟩) n cD y0 y1 y2 qp/\Below g w wr/\zh wr w.heap.size 3 #[.int .i64 (c:Int)])
   case atStart=>exact⟨0,QQ _,za,rfl,C,B,a2⟩
   case round=>
    clear C B a2;obtain⟨i,hin,hg,rfl,hS,hB,m⟩:=hrel;by_cases hlt:i<n - c1
    ·have d4:decide ((i:Int)<((n - c1:Nat):Int))=true:=decide_eq_true za;have d5:(i:Int)<((n - c1:Nat):Int):=za;have i5:(0:Int)<=(i:Int):=za;have hr:c1+i<n:=za;have bh:c+1+i<pk.S.length:=by rw [s.o];have:=z.o;omega
     have bi:c+1+i=c1+i:=by have:=z.o;omega
     obtain⟨u7,am⟩:∃x,qp.getD (c1+i) 0=x:=⟨_,rfl⟩;obtain⟨uc,an⟩:∃x,qp.getD c 0=x:=⟨_,rfl⟩;have bg:=hS.rowAt hr;have a7:=hS.rowAt hc;rw [am] at bg;rw [an] at a7;obtain⟨a0,-,J⟩:=bg;obtain⟨a1,-,R⟩:=a7;have H:(va c pk.S i).getD (c1+i) []=pk.S.getD (c1+i) []:=by rw [VS (by rw [s.o];exact hr),if_neg (by have:=z.o;omega)]
     have I:(va c pk.S i).getD c []=pk.S.getD c []:=Yj (by rw [s.o];exact hc) (qX c);have J:yn wr u7 n (pk.S.getD (c1+i) []):=by rw [<-H];exact J
     have R:yn wr uc n (pk.S.getD c []):=by rw [<-I];exact R
     obtain⟨ae,b5,B5,m5,bw,E5,u5,v5,e9,-,q3,q4,q5,hx⟩:=(wE J).get (qZ _ _) hc;injection e9 with e9;subst e9;rw [wu] at q3;have q3:wr.cell? ⟨u7,c*3,none⟩=some (.bool b5):=q3;have q4:wr.cell? ⟨u7,c*3+1,none⟩=some (.slice B5 m5 bw):=by rw [wu] at q4;exact q4
     have q5:wr.cell? ⟨u7,c*3+2,none⟩=some (.slice E5 u5 v5):=by rw [wu] at q5;exact q5
     have HX:=zb hx;have HS:=zb hS;have HB:=zb hB;have a:=zb m;have t:=zb J;have N:=zb R;have bs:=zb am;have bt:=zb an;have hcn1:¬(n=c1):=za;have hcA1:¬(cA=c1):=za;have a3:=Pw (p:=zK (zn pk.S) c) (row:=pk.S.getD (c1+i) []) (by_:=pk.S.getD c []) z.o;have bo:=zb a3;have ab:=zb (Px bh);rw [bi] at ab;have U:zd (zN (67+65*K) (pk.S.getD (c1+i) [])):=ax.o.row (by rw [s.o];exact hr);have ay:zd (zN (67+65*K) (pk.S.getD c [])):=ax.o.row (by rw [s.o];exact hc);have bu:zd (zm (67+65*K) ((pk.S.getD (c1+i) []).getD c 0)):=U.o.at_ (by rw [(wE t.o).len];exact hc);have aw:zd (zK (zn (va c pk.S i)) c=zK (zn pk.S) c):=NF s.o hc;have bl:zd (zn (va c pk.S i) c c=(pk.S.getD c []).getD c 0):=NE s.o hc;clear hx hS hB m J R H I am an a3 bi bh;go_upto_region 9 with fail;have p0:=HS.o.c0;have q0:=a.o.c1;have j:=(qZ wr.heap.size wr).drew;have u:=HS.o.lt;refine rg (zk p0 (zk q0 (zk a1 (zk q3 (zk q4 (zk q5 zO)))))) (λhHeld=>?_);have HS:=zb (HS.o.below j);have a:=zb (zg j a.o);have HB:=zb (HB.o.trans (j.mono (QK u)));have HX:=zb (HX.o.below j);have t:=zb (t.o.keep j);have N:=zb (N.o.keep j);clear p0 q0 a0 a1 q3 q4 q5 j u;generalize wr.drew=D9 at*;refine tk 0 ?_;refine tk 1 ?_;refine tk 2 ?_;refine tk 3 ?_;refine tk 4 ?_;refine tk 5 ?_;refine tk 6 ?_;refine tk 7 ?_;refine tk 8 ?_;refine tk 9 ?_;refine tk 10 ?_;refine tk 11 ?_;refine tk 12 ?_;refine tk 13 ?_;refine tk 14 ?_;refine tk 15 ?_;refine tk 16 ?_;refine tk 17 ?_;refine tk 18 ?_;refine tk 19 ?_;refine tk 20 ?_;refine tk 21 ?_;refine tk 22 ?_;refine tk 23 ?_;refine tk 24 ?_;refine tk 25 ?_;refine tk 26 ?_;refine rc 27 (λKK m=>?_);go_simp;obtain⟨-,-,hL⟩:=HS.o.lines za;have aj:=z7.rest (k:=c1) (wE t.o) X;have ak:=z7.rest (k:=c1) (wE N.o) X;rw [wu] at aj ak;(with_reducible refine(VT (L:=67+65*K) (HT.o _ HB.o) hL (Qk ar.o hc) hc hc (bp.o i) aj (U.o.drop_ c1) HX.o bu.o ak (ay.o.drop_ c1) (by rw [aw.o];exact av.o) za za za hK).mono ?_);rintro eo w8 ⟨g8,rfl,hg8,ah,hb⟩;rw [aw.o,bl.o] at ah;refine m.out _ _ (Cs.below hHeld hb) (λhHeld=>?_);have u:=HS.o.lt;have HS:=zb (HS.o.below hb);have a:=zb (zg hb a.o);have HB:=zb (HB.o.trans (hb.mono (QK u)));have t:=zb (t.o.keep hb);have aq:=zb ah;clear m KK hb ah hL aj ak u;refine rc 28 (λKK m=>?_);obtain⟨w9,bc,al,ao,O,V⟩:=yn.copied (c1:=c1) (d:=n - c1) t.o aq.o za za 58 58 3 underlying58;rw [<-bo.o] at ao;have Q:qp.getD (c1+i) 0=u7:=bs.o;have y:=HS.o.turnQ hr (by rw [Q];exact al) (by rw [Q];exact ao);have y:zF w9 g n {pk with S:=(va c pk.S i).set (c1+i) (uL c (zK (zn pk.S) c) (pk.S.getD (c1+i) []) (pk.S.getD c []))} (some ⟨gA,0,none⟩) n cA (some ⟨gB,0,none⟩) n cB (some ⟨gD,0,none⟩) n cD y0 y1 y2 qp:=y;rw [ab.o] at y;obtain⟨be,_,bf,_⟩:=HS.o.atQ (q:=u7) (by rw [<-Q];exact jl (by rw [HS.o.rows.len,HS.o.hn];exact hr));have af:=al.2 _ _ _ (Ne.symm (xu bf a.o zf)) a.o;have a5:=V _ _ (QK be) HB.o;have ba:c*3+2<c1*3:=za;have D:=y.rowAt hc;rw [bt.o] at D;have p0:=y.c0;have q0:=af.c1;dsimp only [Cs] at hHeld;obtain⟨-,-,-,t3,t4,t5,-⟩:=hHeld;have q3:=(O (c*3) za).trans t3;have q4:=(O (c*3+1) za).trans t4;have q5:=(O (c*3+2) ba).trans t5;refine V6 (.tmp 41) (.tmp 65) 58 58 rfl rfl rfl bc ?_;refine m.out _ _ (zk p0 (zk q0 (zk D.1 (zk q3 (zk q4 (zk q5 zO)))))) (λhHeld=>?_);have br:=zb y;have bn:=zb af;have bk:=zb a5;clear m KK bc V al ao O Q y be bf af a5 D p0 q0 q3 q4 q5 t3 t4 t5;refine z4 ?_;clear hHeld HS a HB HX t N aq ab;go_wp2;go_roundg (n - i)
     case measure=>omega
     case rel=>exact⟨i+1,za,za,by go_num,br.o,bk.o,bn.o⟩
    ·have bx:i=n - c1:=za;have d4:decide ((i:Int)<((n - c1:Nat):Int))=false:=decide_eq_false za;have d5:¬(i<n - c1):=za;have o:=VR (c:=c) (i:=i) s.o (by have:=z.o;omega);rw [o] at hS;have HF:=zb hS;have HB:=zb hB;clear hS hB m bx o;go_wp2;go_ret;exact⟨rfl,⟨_,_,_,_,HF.o⟩,HB.o⟩
end
theorem fu {l:Nat}(h:zF w g m e A n cA B k cB D l cD x0 x1 x2 qs):
  Calls prog 12 #[.pointer (some ⟨g,0,none⟩)] w (λeo w'=>eo=.returned (.int .i64 (n:Int))/\Below w.heap.size w w'):=by
 have q0:=h.blk.cell 0;have HB:=zb (qZ w.heap.size w);clear h;go_enter func12,ntmps12;go_wp2;go_ret;exact⟨rfl,HB.o⟩
theorem PZ:∀(args:Array Value) (w':World),Sem.run prog (callFunc 126 args) w'=.ok (.enter 126 args) w':=Go.Proofs.enters_of func126 zU rfl
section
variable {w:World}{Q:ze}{n q m gc:Nat}{S:List (List Rat)}
theorem PQ {r:Nat}(hk:zh w gc 26 #[.slice Q n q])(h:xi (zZ zp) w Q n S)(hd:zQ S n m)(hr:r<n)(hc:c<m):
  Calls prog 126 (#[.int .i64 (c:Int),.int .i64 (r:Int)]++#[.pointer (some ⟨gc,0,none⟩)]) w (yp w (zn S r c)):=by
 show Calls _ _ #[.int .i64 (c:Int),.int .i64 (r:Int),.pointer (some ⟨gc,0,none⟩)] _ _;obtain⟨a,i,-⟩:=zw w 54 #[.bool false,.slice none 0 0,.slice none 0 0];have g0:=(zg a hk).c1;obtain⟨ad,C,d,rfl,-,h0,hv⟩:=h.get (yk yt) (qZ _ _) hr (hd.row hr);have hv:z7 w C m d (S.getD r []):=hv;obtain⟨ae,b1,B1,m1,d1,E1,u1,v1,rfl,-,q0,q1,q2,hx⟩:=hv.get (qZ _ _) hc;have hx:zp w (zn S r c) b1 B1 m1 d1 E1 u1 v1:=hx;obtain⟨h0,q0,q1,q2⟩:=wt a h0 q0 q1 q2;have i1:(0:Int)<=(r:Int):=za;have i2:(r:Int)<(n:Int):=za;have i3:(0:Int)<=(c:Int):=za;have i4:(c:Int)<(m:Int):=za;obtain⟨sc0,sf0,sc1,sf1,sc2,sf2⟩:=yf i (.bool b1) (.slice B1 m1 d1);obtain⟨g,j,-⟩:=zw w 54 #[.bool b1,.slice B1 m1 d1,.slice E1 u1 v1];obtain⟨r0,r1,r2⟩:=j.c3;have HG:zd (yp w (zn S r c) (.returned (.agg #[.bool b1,.slice B1 m1 d1,.slice E1 u1 v1])) (w.alloc (.cells #[.bool b1,.slice B1 m1 d1,.slice E1 u1 v1] 54))):=⟨_,_,_,_,_,_,_,rfl,hx.below g,g⟩;clear hk h hd a i hv hx g j;go_enter func126,ntmps126;go_wp2;refine bodyPost_ret (v:=.agg #[.bool b1,.slice B1 m1 d1,.slice E1 u1 v1]) (by simp [results,results126,go_sem,r0,r1,r2]) rfl ?_;exact HG.o
theorem U1 (h:xi (zZ zp) w Q n S)(hd:zQ S n n)(hn:n<=64):
  Calls prog 75 #[.slice Q n q] w (aN w n (wF n n λr c=>zn S c r)):=by
 obtain⟨a,d,-⟩:=zw w 26 #[.slice Q n q];have g0:=d.c1;have HG:zd (kk (λr c=>zn S c r) 126 #[.pointer (some ⟨w.heap.size,0,none⟩)] n n (w.alloc (.cells #[.slice Q n q] 26))):=⟨PZ,λr c hr hc w' hb=>PQ (zg hb d) (h.below (yk yt) (zc a hb)) hd hc hr⟩;have HB:=zb a;clear h hd a d;go_enter func75,ntmps75;go_wp2_with fail;(with_reducible refine(U0 (λr c=>zn S c r) _ _ n _ HG.o hn).mono ?_);rintro eo w2 ⟨g2,rfl,g,i,hb⟩;have HF:zd (aN w n (wF n n λr c=>zn S c r) (.returned (.slice (some ⟨g2,0,none⟩) n n)) w2):=⟨g2,rfl,qD HB.o.size g,i,zc HB.o hb⟩;clear hb g i g0;go_wp2;go_ret;exact HF.o
end
