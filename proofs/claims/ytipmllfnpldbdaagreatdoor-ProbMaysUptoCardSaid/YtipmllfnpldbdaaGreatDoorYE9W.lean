/- What this claim leans on. -/
import Derived.Test.YtipmllfnpldbdaaGreatDoorYVAdd
import Derived.Lib.IfaceEq
import Derived.Stop.IfaceNil
set_option linter.unusedVariables false
set_option linter.unusedSimpArgs false
namespace Go.Proofs.YtipmllfnpldbdaaGreatDoor
open Go Go.RowKit Go.Proofs.Tryz
open Go.RowKit Go.Extern.Stop Go.Stop Go.Extern
set_option maxHeartbeats 16000000
variable {M:List (List Rat)}{xs:List Rat}{m:Nat}{v:Value}{w w':World}
def mS (w:World)(n:Int)(s:ByteArray)(k:Int)(fb:Nat):Prop:=w.cell? ⟨fb,0,none⟩=some (.string s)/\w.cell? ⟨fb,1,none⟩=some (.int .i64 k)/\w.cell? ⟨fb,2,none⟩=some (.iface 71 (.int .i64 n))
def uj (w:World)(er:Er)(v:Value):Prop:=match er with
 |.no=>v=.nilIface
 |.bare n=>v=.iface 71 (.int .i64 n)
 |.spot n s k=>∃fb,v=.iface 144 (.pointer (some ⟨fb,0,none⟩))/\mS w n s k fb
theorem mS.below {n:Int}{s:ByteArray}{k:Int}{fb:Nat}(h:mS w n s k fb)(hb:Below w.heap.size w w'):mS w' n s k fb:=⟨zq hb h.1,zq hb h.2.1,zq hb h.2.2⟩
theorem uj.below {er:Er}(h:uj w er v)(hb:Below w.heap.size w w'):uj w' er v:=by
 cases er with
 |no=>exact h
 |bare n=>exact h
 |spot n s k=>obtain⟨fb,e,hs⟩:=h;exact⟨fb,e,hs.below hb⟩
theorem lZ (w:World):(binOp .eql 37 .nilIface .nilIface).run prog w=.ok (.bool true) w:=zm
theorem nY (t:TypeId)(x:Value)(w:World):(binOp .eql 37 (.iface t x) .nilIface).run prog w=.ok (.bool false) w:=run_eql_iface_nil w 37 zm t x
theorem uj.ne {w0:World}{er:Er}(h:uj w0 er v)(hn:er≠.no):∃t x,v=.iface t x:=by
 cases er with
 |no=>exact absurd rfl hn
 |bare n=>exact⟨_,_,h⟩
 |spot n s k=>obtain⟨fb,e,_⟩:=h;exact⟨_,_,e⟩
theorem te (n:Int)(s:ByteArray)(k:Int)(w:World):
  Calls prog 58 #[.iface 71 (.int .i64 n),.string s,.int .i64 k] w λe w'=>∃v,e=.returned v/\uj w' (.spot n s k) v/\Below w.heap.size w w':=by
 have h0:=nY 71 (.int .i64 n);go_enter func58,ntmps58;go_wp2;go_ret;obtain⟨b1,b2,b3⟩:=zG w 146 #[.string s,.int .i64 k,.iface 71 (.int .i64 n)];exact⟨_,rfl,⟨_,rfl,b2.cell 0,b2.cell 1,b2.cell 2⟩,b1⟩
open Go Go.RowKit Go.Proofs.Tryz
set_option maxHeartbeats 16000000
set_option maxRecDepth 100000
section
variable {K K' L:Nat}{r:Rat}{xs ys:List Rat}{A B:zf}{n n' c d:Nat}{w:World}{s:Bool}{D:zf}{m e9:Nat}{U:zf}{u v:Nat}
end
theorem wg {g n:Nat}(h:yk w g n xs)(hn:n<=1073741824:=by omega):zF w (some ⟨g,0,none⟩) n n xs:=yF.row h za
section
variable {K K':Nat}{xs ys:List Rat}{A B:zf}{n n' c d:Nat}{w:World}
theorem Vq (hT:zv w)(h:n≠n'):
  Calls prog 23 #[.slice A n c,.slice B n' d] w (wj w 0 false):=by
 obtain⟨g,i,bz⟩:=zG w 60 #[.bool false,.slice none 0 0,.slice none 0 0];have H:∀W,zg (Calls prog 62 #[.slice A n c,.slice B n' d,.func (.func 63) #[] #[]] W (gH W)):=λW=>ZW _ A B n n' c d W h;have HT:=zn w (λw' hb=>hT.on hb);have hB:=g;have HK:=zd i;clear h hT g i bz;go_enter func23,ntmps23;go_wp2_with fail;refine(H _).o.mono ?_;rintro e w1 ⟨rfl,hb⟩;have hB:=ze hB hb;have hk:=zj hb HK.o;clear hb HK;go_wp2_with fail;refine(kC (K:=1) (HT.o _ hB) (yf.nil w1) (λx hx=>by cases hx) zh zh).mono ?_;rintro e w2 ⟨b2,A2,n2,c2,E2,k2,f2,rfl,m,hb⟩;have j:=ze hB hb;have a:=zj hb hk;obtain⟨sc0,sf0,sc1,sf1,sc2,sf2⟩:=yj a (.bool b2) (.slice A2 n2 c2);obtain⟨r0,r1,r2⟩:=(yi a (.bool b2) (.slice A2 n2 c2) (.slice E2 k2 f2)).c3;have HG:=zd (tB false m a j (qX _));clear hb hB hk j a m;go_wp2;refine bodyPost_ret (v:=.tuple #[.agg #[.bool b2,.slice A2 n2 c2,.slice E2 k2 f2],.bool false]) (by simp [results,results23,go_sem,r0,r1,r2]) rfl ?_;exact HG.o
theorem aR (hT:zv w)(ha:zF w A n c xs)(hb:zF w B n d ys)(hx:zI K xs)(hy:zI K' ys)(hn:n<=1073741824:=by omega)(hK:K<=67108864:=by omega)(u:K'<=67108864:=by omega)(hS:1+n*(K+K'+1)<=67108864:=by omega):
  Calls prog 23 #[.slice A n c,.slice B n d] w (wj w (wR xs ys) true):=by
 have D:=ha.len;have F:=hb.len;obtain⟨a,j,bz⟩:=zG w 60 #[.bool false,.slice none 0 0,.slice none 0 0];have H:=zd (cH (λx y=>x*y) 63 #[] xs ys A B n c d _ (ha.keep a) (hb.keep a) hn oZ (λi hi w' C b b' A A' n n' c c' E E' k k' f f' h1 h2=>by
  rw [Array.append_empty];exact lC ((hT.on a).on C) h1 h2 (hx.at_ za) (hy.at_ za) hK u))
 have HT:=zn w (λw' hb=>hT.on hb);have hB:=a;have HK:=zd j;have HS:=zd (zI.mul hx hy);have hN:=hn;have z:=zd hS;clear ha hb hx hy hT a j bz D F hS;go_enter func23,ntmps23;go_wp2_with fail;refine H.o.mono ?_;rintro e w1 ⟨g,rfl,-,h2,hb⟩;have hB:=ze hB hb;have hk:=zj hb HK.o;have HV:=zd (wg h2 hN);clear hb HK h2 H;go_wp2_with fail;refine(kC (HT.o _ hB) HV.o HS.o hN z.o).mono ?_;rintro e w2 ⟨b2,A2,n2,c2,E2,k2,f2,rfl,t,hb⟩;have m:=ze hB hb;have h:=zj hb hk;obtain⟨sc0,sf0,sc1,sf1,sc2,sf2⟩:=yj h (.bool b2) (.slice A2 n2 c2);obtain⟨r0,r1,r2⟩:=(yi h (.bool b2) (.slice A2 n2 c2) (.slice E2 k2 f2)).c3;have HG:=zd (tB (r:=wR xs ys) true t h m (qX _));clear hb hB hk m h t HV HS;go_wp2;refine bodyPost_ret (v:=.tuple #[.agg #[.bool b2,.slice A2 n2 c2,.slice E2 k2 f2],.bool true]) (by simp [results,results23,go_sem,r0,r1,r2]) rfl ?_;exact HG.o
end
open Go Go.RowKit Go.Proofs.Tryz
set_option maxHeartbeats 16000000
def vS (n m:Nat)(f:Nat->Nat->Rat):List (List Rat):=(List.range n).map λr=>(List.range m).map (f r)
def vF (M:List (List Rat))(r c:Nat):Rat:=(M.getD r []).getD c 0
structure wW (M:List (List Rat))(n m:Nat):Prop where
 rows:M.length=n
 cols:∀L ∈ M,L.length=m
theorem wW.row {n:Nat}(h:wW M n m){r:Nat}(hr:r<n):(M.getD r []).length=m:=by
 have hl:=h.rows;rw [qQ,qZ za];exact h.cols _ (xM _)
theorem Uo (n m:Nat)(f:Nat->Nat->Rat):wW (vS n m f) n m:=⟨by simp [vS],λL hL=>by
 obtain⟨r,_,rfl⟩:=List.mem_map.1 hL;simp⟩
theorem WC {n:Nat}{f g:Nat->Nat->Rat}(h:∀r c,r<n->c<m->f r c=g r c):vS n m f=vS n m g:=by
 unfold vS;exact List.map_congr_left λr hr=>List.map_congr_left λc hc=>h r c (List.mem_range.1 hr) (List.mem_range.1 hc)
theorem Wo (h:xs.length=m):(List.range m).map (λc=>xs.getD c 0)=xs:=by
 subst h;apply YH
 ·simp
 ·intro i h1 h2;rw [List.getElem_map,List.getElem_range,qQ,qZ h2];rfl
theorem wW.eq {n:Nat}(h:wW M n m):vS n m (vF M)=M:=by
 have hl:=h.rows;unfold vS;apply YH
 ·simp [hl]
 ·intro i h1 h2;rw [List.getElem_map,List.getElem_range];have e:M.getD i []=M[i]:=by rw [qQ,qZ h2];rfl
  show(List.range m).map (λc=>(M.getD i []).getD c 0)=M[i];rw [e];exact Wo (h.cols _ (xM h2))
theorem wW.ext {A B:List (List Rat)}{n:Nat}(hA:wW A n m)(hB:wW B n m)(h:∀r c,r<n->c<m->vF A r c=vF B r c):A=B:=by
 rw [<-hA.eq,<-hB.eq];exact WC h
def uf (M:List (List Rat))(v:List Rat):List Rat:=M.map λL=>wR L v
theorem tw (m:Nat):wW [] 0 m:=⟨rfl,λL hL=>by cases hL⟩
open Go Go.RowKit Go.Proofs.Tryz
set_option maxHeartbeats 16000000
set_option maxRecDepth 100000
theorem dS (z:Int)(w:World):Calls prog 105 #[.int .i64 z] w (λe w'=>e=.returned (.bool false)/\w=w'):=by
 have h1:(z !=z)=false:=zD;go_enter func105,ntmps105;go_wp2;go_ret;exact⟨rfl,rfl⟩
theorem Yp (n m:Nat)(w:World):Calls prog 87 #[.int .i64 (n:Int),.int .i64 (m:Int)] w (λe w'=>e=.returned (.int .i64 (tp n m))/\w=w'):=by
 have H1:=zd (dS (n:Int) w);have H2:=zd (dS (m:Int) w);unfold tp;by_cases h1:n<m
 ·have hd:decide ((n:Int)<(m:Int))=true:=decide_eq_true za;have a:decide (n<m)=true:=decide_eq_true za;rw [if_pos h1];go_enter func87,ntmps87;go_wp2_with fail;refine H1.o.mono ?_;rintro e w1 ⟨rfl,rfl⟩;go_wp2_with fail;refine H2.o.mono ?_;rintro e w1 ⟨rfl,rfl⟩;go_wp2;go_ret;exact⟨rfl,rfl⟩
 ·have hd:decide ((n:Int)<(m:Int))=false:=decide_eq_false za;have a:decide (n<m)=false:=decide_eq_false za;rw [if_neg h1];by_cases h2:n=m
  ·rw [if_pos h2];have d:decide ((m:Int)<(n:Int))=false:=decide_eq_false za;have g:decide ((n:Int)>(m:Int))=false:=decide_eq_false za;have h:decide (m<n)=false:=decide_eq_false za;clear h1 h2;go_enter func87,ntmps87;go_wp2_with fail;refine H1.o.mono ?_;rintro e w1 ⟨rfl,rfl⟩;go_wp2_with fail;refine H2.o.mono ?_;rintro e w1 ⟨rfl,rfl⟩;go_wp2;go_ret;exact⟨rfl,rfl⟩
  ·rw [if_neg h2];have d:decide ((m:Int)<(n:Int))=true:=decide_eq_true za;have g:decide ((n:Int)>(m:Int))=true:=decide_eq_true za;have h:decide (m<n)=true:=decide_eq_true za;clear h1 h2;go_enter func87,ntmps87;go_wp2_with fail;refine H1.o.mono ?_;rintro e w1 ⟨rfl,rfl⟩;go_wp2_with fail;refine H2.o.mono ?_;rintro e w1 ⟨rfl,rfl⟩;go_wp2;go_ret;exact⟨rfl,rfl⟩
section
variable {K K':Nat}{xs ys:List Rat}{A B:zf}{n n' c d:Nat}{w:World}
theorem Uv {z:Int}(hz:wI xs ys=z)(hT:zv w)(ha:zF w A n c xs)(hb:zF w B n' d ys)(hx:zI K xs)(hy:zI K' ys)(hn:n<=1073741824:=by omega)(hn':n'<=1073741824:=by omega)(hK:K<=67108864:=by omega)(J:K'<=67108864:=by omega):
  Calls prog 75 #[.slice A n c,.slice B n' d] w (wF w z):=by
 have P:=ha.len;have Q:=hb.len;have M:=zd P;have O:=zd Q;have HZ:=zd hz;have H:zg (∀i,i<n->zt K (xs.getD i 0)):=λi hi=>hx.at_ za;have I:zg (∀i,i<n'->zt K' (ys.getD i 0)):=λi hi=>hy.at_ za;unfold wF;have HA:=zd ha;have V:=zd hb;have HT:=zn w (λw' hb=>hT.on hb);clear hT ha hb hx hy P Q hz;have hB:=qY w.heap.size w;have i0:(0:Int)<=(n:Int):=za;obtain⟨N,hN⟩:∃N,min n n'=N:=⟨_,rfl⟩;have hNn:N<=n:=za;have hNm:N<=n':=za;have HN:=zd hN;have R:min (n:Int) (n':Int)=(N:Int):=za;have S:(if (n':Int)<(n:Int) then(n':Int) else(n:Int))=(N:Int):=by split<;>omega
 have T:(if n'<n then(n':Int) else(n:Int))=(N:Int):=by split<;>omega
 clear hN;go_enter func75,ntmps75;go_wp2_with fail;clear R S T
 go_loopg [11] (N+1) (λg ix wr=>∃(k:Nat),k<=N/\N<g+k/\ix=.int .i64 k/\zg (wI (xs.drop k) (ys.drop k)=z)/\Below w.heap.size w wr)
 case atStart=>exact⟨0,xQ _,za,rfl,HZ,hB⟩
 case round=>
  clear hB;obtain⟨k,hkn,hg,rfl,L,hB⟩:=hrel;by_cases hlt:k<N
  ·have m:k<n:=za;have j:k<n':=za;obtain⟨ad,b1,B1,m1,d1,E1,u1,v1,rfl,-,v,x,y,hx⟩:=HA.o.get hB m;obtain⟨ae,b2,B2,m2,d2,E2,u2,v2,rfl,-,C,D,E,hy⟩:=V.o.get hB j;have aa:decide ((k:Int)<(N:Int))=true:=decide_eq_true za;have i1:(0:Int)<=(k:Int):=za;have i2:(k:Int)<(n:Int):=za;have i3:(k:Int)<(n':Int):=za;have HX:=zd hx;have HY:=zd hy;have t:=zd hB;have F:k<xs.length:=by have:=M.o;omega
   have G:k<ys.length:=by have:=O.o;omega
   clear hx hy hB;by_cases h0:xs.getD k 0=ys.getD k 0
   ·have HQ:=zd (decide_eq_true h0);have Z:zg (wI (xs.drop (k+1)) (ys.drop (k+1))=z):=by
     show _=_;rw [<-ZO F G h0];exact L.o
    clear h0 F G;go_wp2_with fail;have a:=(qY wr.heap.size wr).drew;refine rg (zk v (zk x (zk y (zk C (zk D (zk E zQ)))))) (λhHeld=>?_);refine tk 0 ?_;refine tk 1 ?_;refine tk 2 ?_;refine tk 3 ?_;refine tk 4 ?_;refine tk 5 ?_;refine tk 6 ?_;refine tk 7 ?_;refine rc 8 (λKK h=>?_);go_simp;(with_reducible refine(sw HQ.o (HT.o _ (ze t.o a)) (HX.o.below a) (HY.o.below a) (H.o k m) (I.o k j) hK J).mono ?_);rintro e wa ⟨rfl,hb⟩;have a:=ze a hb;refine h.out _ _ (Cs.below hHeld hb) (λhHeld=>?_);clear h KK hb;refine tk 9 ?_;refine z8 ?_;have u:=zd (ze t.o a);clear hHeld a v x y C D E HX HY t;go_wp2;go_roundg (N - k)
    case measure=>omega
    case rel=>exact⟨k+1,za,za,by go_num,Z,u.o⟩
   ·have HQ:=zd (decide_eq_false h0);have HF:zg (wX (xs.getD k 0) (ys.getD k 0)=z):=by
     show _=_;rw [<-ZC F G h0];exact L.o
    clear h0 F G;go_wp2_with fail;have a:=(qY wr.heap.size wr).drew;refine rg (zk v (zk x (zk y (zk C (zk D (zk E zQ)))))) (λhHeld=>?_);refine tk 0 ?_;refine tk 1 ?_;refine tk 2 ?_;refine tk 3 ?_;refine tk 4 ?_;refine tk 5 ?_;refine tk 6 ?_;refine tk 7 ?_;refine rc 8 (λKK h=>?_);go_simp;(with_reducible refine(sw HQ.o (HT.o _ (ze t.o a)) (HX.o.below a) (HY.o.below a) (H.o k m) (I.o k j) hK J).mono ?_);rintro e wa ⟨rfl,hb⟩;have a:=ze a hb;refine h.out _ _ (Cs.below hHeld hb) (λhHeld=>?_);clear h KK hb;refine tk 9 ?_;refine z8 ?_;have u:=zd (ze t.o a);have X:=zd (HX.o.below a);have Y:=zd (HY.o.below a);obtain⟨c0,c1,c2,e0,e1,e2,-⟩:=hHeld;clear a v x y C D E HX HY t;go_wp2_with fail;have a:=(qY wa.heap.size wa).drew;refine rg (zk c0 (zk c1 (zk c2 (zk e0 (zk e1 (zk e2 zQ)))))) (λhHeld=>?_);refine tk 0 ?_;refine tk 1 ?_;refine tk 2 ?_;refine tk 3 ?_;refine tk 4 ?_;refine tk 5 ?_;refine tk 6 ?_;refine tk 7 ?_;refine rc 8 (λKK h=>?_);go_simp;(with_reducible refine(ua HF.o (lB (HT.o _ (ze u.o a)) (X.o.below a) (Y.o.below a) (H.o k m) (I.o k j) hK J)).mono ?_);rintro e wb ⟨rfl,hb⟩;have a:=ze a hb;refine h.out _ _ (Cs.below hHeld hb) (λhHeld=>?_);clear h KK hb;refine tk 9 ?_;refine z8 ?_;have U:=zd (ze u.o a);clear hHeld a c0 c1 c2 e0 e1 e2;go_wp2;go_ret;exact⟨rfl,U.o⟩
  ·have hk:k=N:=za;subst hk;have aa:decide ((k:Int)<(k:Int))=false:=zD;have HF:zg (tp n n'=z):=by
    have h1:=M.o;have h2:=O.o;have h3:=HN.o;have h4:=L.o;rw [tr (by rw [h1,h2];exact h3.symm),h1,h2] at h4;exact h4
   have u:=zd hB;have H1:=zd (Yp n n' wr);rw [HF.o] at H1;clear hB;go_wp2_with fail;refine H1.o.mono ?_;rintro e w1 ⟨rfl,rfl⟩;go_wp2;go_ret;exact⟨rfl,u.o⟩
theorem Vs {t:Bool}(e:decide (xs=ys)=t)(hT:zv w)(ha:zF w A n c xs)(hb:zF w B n' d ys)(hx:zI K xs)(hy:zI K' ys)(hn:n<=1073741824:=by omega)(g:n'<=1073741824:=by omega)(hK:K<=67108864:=by omega)(a:K'<=67108864:=by omega):
  Calls prog 34 #[.slice A n c,.slice B n' d] w (λe w'=>e=.returned (.bool t)/\Below w.heap.size w w'):=by
 obtain⟨z,hz⟩:∃z,wI xs ys=z:=⟨_,rfl⟩;have H:=zd (Uv hz hT ha hb hx hy hn g hK a);have ht:(z==0)=t:=by
  rw [<-e,<-hz];by_cases h:xs=ys
  ·rw [decide_eq_true h,(gK xs ys).2 h];rfl
  ·rw [decide_eq_false h,beq_eq_false_iff_ne];exact λh9=>h ((gK xs ys).1 h9)
 clear hz hT ha hb hx hy e;have HE:=zd ht;clear ht;go_enter func34,ntmps34;go_wp2_with fail;refine H.o.mono ?_;rintro e w1 ⟨rfl,hb⟩;go_wp2;go_ret;exact⟨by rw [<-HE.o];rfl,hb⟩
end
