/- What this claim leans on. -/
import Derived.Test.YtdfdjfiognhbgaaGreatDoorDVMade
set_option linter.unusedVariables false
set_option linter.unusedSimpArgs false
namespace Go.Proofs.YtdfdjfiognhbgaaGreatDoor
open Go Go.RowKit Go.Proofs.Tryz
set_option maxHeartbeats 16000000
variable {p:Addr}{b:Bool}{z:Int}{M:List (List Rat)}{xs:List Rat}{vs:List Value}{a c d f g gc i j k m n x:Nat}{t:TypeId}{v:Value}{w w' wr:World}{A B E Q:ze}
theorem cD {T:World->Prop}{M:Nat->Prop}(a:∀w,T w->zu w)(h0:M 0->lu T)(h1:M 1->lv T)(h2:M 2->lw T):uG T M where
 g0:=h0
 g1:=h1
 g2:=h2
 new p q b b' A D n m c d w hT hA hD hn hm h0:=U1 p q b A n c b' D m d w (a w hT) hA hD hn hm h0
 newNo p q b b' A D n m c d w hT hA hD hn hm h0:=Wj p q b A n c b' D m d w (a w hT) hA hD hn hm h0
 of p q w hT h1 h2 h3 h4 h0:=qz p q w (a w hT) h1 h2 h3 h4 h0
 ofNo p q w hT h1 h2 h0:=Pk p q w (a w hT) h1 h2 zb zb h0
 num r b A n c E k f w hT h hf:=U2 r b A n c E k f w (a w hT) h hf
 den r b A n c E k f w hT h hf:=Zr r b A n c E k f w (a w hT) h hf
 sign r b A n c E k f w hT h hf:=Zc r b A n c E k f w (a w hT) h hf
 zero r b A n c E k f w hT h hf:=uQ r b A n c E k f w (a w hT) h hf
 isInt r b A n c E k f w hT h hf:=pT r b A n c E k f w (a w hT) h hf
 bits r b A n c E k f w hT h hf:=qw r b A n c E k f w (a w hT) h hf
 neg r b A n c E k f w hT h hf:=dF r b A n c E k f w (a w hT) h hf
 inv r b A n c E k f w hT h hf h0:=dE r b A n c E k f w (a w hT) h hf h0
 invNo r b A n c E k f w hT h hf h0:=R7 r b A n c E k f w (a w hT) h hf h0
 add r s b b' A A' n n' c c' E E' k k' f f' w hT h h' hf hf':=dD r s b A n c E k f b' A' n' c' E' k' f' w (a w hT) h h' hf hf'
 sub r s b b' A A' n n' c c' E E' k k' f f' w hT h h' hf hf':=mj r s b A n c E k f b' A' n' c' E' k' f' w (a w hT) h h' hf hf'
 cmp r s b b' A A' n n' c c' E E' k k' f f' w hT h h' hf hf':=UY r s b A n c E k f b' A' n' c' E' k' f' w (a w hT) h h' hf hf'
 same r s b b' A A' n n' c c' E E' k k' f f' w hT h h' hf hf':=Ut r s b A n c E k f b' A' n' c' E' k' f' w (a w hT) h h' hf hf'
set_option maxRecDepth 100000
theorem pG (n m:Nat)(f:Nat->Nat->Rat):(vk n m f).length=n:=by simp [vk]
theorem pF (f:Nat->Nat->Rat){r:Nat}(h:r<n):(vk n m f)[r]?=some ((List.range m).map (f r)):=by
 unfold vk;rw [QQ,xW h];rfl
theorem R3 (m:Nat)(f:Nat->Rat):((List.range m).map f).length=m:=zE
theorem R2 (f:Nat->Rat){c:Nat}(h:c<m):((List.range m).map f)[c]?=some (f c):=by
 rw [QQ,xW h];rfl
theorem TP (h:xj (zY zo) w 64 g n M)(hd:zM M n m)(hn:n<=64)(hm:m<=64):yF w (some ⟨g,0,none⟩) n n m M:=⟨hd,qY _,zb,hn,hm,h.rows,λad e=>by obtain⟨cs,hk,_⟩:=h.blk;injection e with e;subst e;exact⟨cs,hk⟩⟩
def oS (f:Nat->Nat->Rat)(F:FuncId)(cap:Array Value)(n m:Nat)(w:World):Prop:=
 (∀ (args : Array Value) (w' : World),Sem.run prog (callFunc F args) w' = .ok (.enter F args) w') ∧
   ∀r c,r<n->c<m->∀w',Below w.heap.size w w'->Calls prog F (#[.int .i64 (r:Int),.int .i64 (c:Int)]++cap) w' (xe w' (f r c))
theorem Uj {K:Nat}(f:Nat->Nat->Rat)(F:FuncId)(cap:Array Value)(n m:Nat)(w:World)(hT:zu w)(hG:oS f F cap n m w)(hS:∀r c,r<n->c<m->zm K (f r c))(hn:n<=64:=by omega)(hm:m<=64:=by omega)(hK:K+2<=67108864:=by omega):
  Calls prog 64 #[.int .i64 (n:Int),.int .i64 (m:Int),.func (.func F) #[] cap] w (mX w n m (vk n m f)):=by
 obtain⟨hEn,hF⟩:=hG;have HF:=za hF;have HT:=zj w (λw' hb=>hT.on hb);have Q:=za (pG n m f);have P:zd (∀r,r<n->(vk n m f)[r]?=some ((List.range m).map (f r))):=λr hr=>pF f hr;have ae:zd (∀r c,c<m->((List.range m).map (f r))[c]?=some (f r c)):=λr c hc=>R2 (f r) hc;have ai:zd (∀r,((List.range m).map (f r)).length=m):=λr=>R3 m (f r);have am:zd (∀r,r<n->zK K ((List.range m).map (f r))):=λr hr x hx=>by
  obtain⟨c,hc,rfl⟩:=List.mem_map.1 hx;exact hS r c hr (List.mem_range.1 hc)
 have ac:=za (eI n m f);obtain⟨G,N⟩:∃G:Nat->List Rat,(λr=>(List.range m).map (f r))=G:=⟨_,rfl⟩;have E:∀r,(List.range m).map (f r)=G r:=λr=>by rw [<-N]
 simp only [E] at P ae ai am;obtain⟨M,hM⟩:∃M,vk n m f=M:=⟨_,rfl⟩;rw [hM] at Q P ac⊢;obtain⟨Z,hZ⟩:=iH m zb;have HMK:∀W,(Instr.makeSlice 64 (.int .i64 (m:Int)) (.int .i64 (m:Int))).run prog W=.ok (.slice (some ⟨W.heap.size,0,none⟩) m m) (W.alloc (.cells Z 41)):=λW=>(hZ W).1;have ak:=za (λW=>(hZ W).2);obtain⟨Y,hY⟩:=bU n zb;have aj:∀W,(Instr.makeSlice 26 (.int .i64 (n:Int)) (.int .i64 (n:Int))).run prog W=.ok (.slice (some ⟨W.heap.size,0,none⟩) n n) (W.alloc (.cells Y 64)):=λW=>(hY W).1;have B:=za (λW=>(hY W).2);obtain⟨b1,b2,b3,b4,b5⟩:=yn w 28 64 28 #[.slice none 0 0,.int .i64 0] Y #[.slice (some ⟨w.heap.size+1,0,none⟩) n n,.int .i64 (m:Int)];clear hT hF hS N E hM hZ hY;unfold mX;have i0:(0:Int)<=(n:Int):=zb;have i1:(0:Int)<=(m:Int):=zb;go_enter func64,ntmps64;go_wp2_with fail;have a:xj (zY zo) (((w.alloc (.cells #[.slice none 0 0,.int .i64 0] 28)).alloc (.cells Y 64)).alloc (.cells #[.slice (some ⟨w.heap.size+1,0,none⟩) n n,.int .i64 (m:Int)] 28)) 64 (w.heap.size+1) n (uh [] M n 0):=by
  have h1:=B.o (w.alloc (.cells #[.slice none 0 0,.int .i64 0] 28));have e1:(w.alloc (.cells #[.slice none 0 0,.int .i64 0] 28)).heap.size=w.heap.size+1:=zE;rw [e1] at h1;rw [mR];exact h1.below (zN zS) (zw _ _ _).1
 clear b3 B aj;obtain⟨g0,S⟩:∃g,w.heap.size=g:=⟨_,rfl⟩;have a2:w.heap.size<=g0:=zb;rw [S] at a b1 b2 b4 b5⊢;generalize ((w.alloc (.cells #[.slice none 0 0,.int .i64 0] 28)).alloc (.cells Y 64)).alloc (.cells #[.slice (some ⟨g0+1,0,none⟩) n n,.int .i64 (m:Int)] 28)=W1 at*;rw [<-S] at b1;clear S
 go_loopg [18] (n+1) (λg ix wr=>∃(k:Nat),k<=n/\n<g+k/\ix=.int .i64 k/\xj (zY zo) wr 64 (g0+1) n (uh [] M n k)/\Below w.heap.size w wr/\zh wr g0 28 #[.slice none 0 0,.int .i64 0]/\zh wr (g0+1+1) 28 #[.slice (some ⟨g0+1,0,none⟩) n n,.int .i64 (m:Int)])
 case atStart=>exact⟨0,qN _,zb,rfl,a,b1,b2,b4⟩
 case round=>
  clear a b1 b2 b4 b5;obtain⟨k,hkn,hg,rfl,a,hB,z,H⟩:=hrel;obtain⟨wo,a3⟩:∃wo,wo=wr:=⟨_,rfl⟩;subst a3;by_cases hlt:k<n
  ·have a0:decide ((k:Int)<(n:Int))=true:=decide_eq_true zb;have i2:(0:Int)<=(k:Int):=zb;have i3:(k:Int)<(n:Int):=zb;have hg1:=a.lt;have al:=za a;have HB:=za hB;have aw:=za z;have ax:=za H;have J:=za (ae.o k);have u:=za (ai.o k);have L:=za (am.o k hlt);have I:=za (P.o k hlt);obtain⟨R,hR⟩:∃R,G k=R:=⟨_,rfl⟩;rw [hR] at J u L I;clear a hB z H hR;go_wp2_with fail;have o:=ak.o wo;have d:Below wo.heap.size wo (wo.alloc (.cells Z 41)):=(qZ _ wo).alloc (qY _) _;rw [<-mR 0 R m] at o;obtain⟨gr,an⟩:∃g,wo.heap.size=g:=⟨_,rfl⟩;have a4:wo.heap.size<=gr:=zb;rw [an] at o⊢;generalize wo.alloc (.cells Z 41)=W2 at*;clear an
   go_loopg [25] (m+1) (λg jx wr=>∃(j:Nat),j<=m/\m<g+j/\jx=.int .i64 j/\vP wr gr m (uh 0 R m j)/\Below wo.heap.size wo wr)
   case atStart=>exact⟨0,qN _,zb,rfl,o,d⟩
   case round=>
    clear o d;obtain⟨j,hjm,hg2,rfl,o,d⟩:=hrel;by_cases hjl:j<m
    ·have a1:decide ((j:Int)<(m:Int))=true:=decide_eq_true zb;have i4:(0:Int)<=(j:Int):=zb;have i5:(j:Int)<(m:Int):=zb;have af:=za o;have O:=za d;have av:=za (J.o j hjl);clear o d;go_wp2_with fail;refine(HF.o k j hlt hjl _ (zc HB.o O.o)).mono ?_;rintro e w3 ⟨b3,A3,n3,c3,E3,k3,f3,rfl,ap,hb⟩;have T:=af.o.keep hb;have U:=wA.set_ zS T hjl ap;rw [mT 0 R m j u.o hjl _ av.o] at U;obtain⟨q0,q1,q2,aa,ab,a5,a6,sc2,sf2⟩:=T.ready hjl (.bool b3) (.slice A3 n3 c3);have ay:=za U;have ar:=za (lV (j*3) (j*3+1) (j*3+2) (.bool b3) (.slice A3 n3 c3) (.slice E3 k3 f3) a4 (zc O.o hb));clear T U hb ap af O;go_wp2;go_roundg (m - j)
     case measure=>omega
     case rel=>exact⟨j+1,zb,zb,by go_num,ay.o,ar.o⟩
    ·have hj:j=m:=zb;subst hj;have a1:decide ((j:Int)<(j:Int))=false:=zE;have HV:=za (xw (mS 0 R j u.o▸o));have aq:=zf d ax.o;have i:=za (al.o.below (zN zS) d);have A:=za (zc HB.o d);have s:=za (zf d aw.o);have t:=za aq;obtain⟨p0,p1⟩:=aq.c2;have y:=(qZ wr.heap.size wr).drew;clear o d;go_wp2_with fail;refine rg (zl p0 zJ) (λhHeld=>?_);clear p0 p1;have HV:=za (HV.o.keep y);have i:=za (i.o.below (zN zS) y);have A:=za (zc A.o y);have s:=za (zf y s.o);have t:=za (zf y t.o);clear y;generalize wr.drew=D at*;refine tk 0 ?_;refine tk 1 ?_;refine tk 2 ?_;refine tk 3 ?_;refine rc 4 (λKK C=>?_);go_simp;(with_reducible refine(V9 (HT.o _ A.o) HV.o L.o).mono ?_);rintro e w5 ⟨g5,rfl,hg5,ao,hb⟩;refine C.out _ _ (Cs.below hHeld hb) (λhHeld=>?_);clear C KK;have V:=i.o.below (zN zS) hb;have X:=xj.set_ (zN zS) V hlt (xw ao) u.o;rw [mT [] M n k Q.o hlt _ I.o] at X;obtain⟨q0,aa,ab⟩:=V.ready hlt;have hne:g0+1+1≠g0+1:=zb;have az:=za X;have au:=za (zz (p:=⟨g0+1,k,none⟩) (.slice (some ⟨g5,0,none⟩) j j) (show w.heap.size<=g0+1 by omega) (zc A.o hb));have ag:=za (zh.far (p:=⟨g0+1,k,none⟩) (zf hb s.o) (by show g0≠g0+1;omega) (.slice (some ⟨g5,0,none⟩) j j));have ah:=za (zh.far (p:=⟨g0+1,k,none⟩) (zf hb t.o) (by show g0+1+1≠g0+1;omega) (.slice (some ⟨g5,0,none⟩) j j));clear hb V X ao i A s t HV;refine tk 5 ?_;refine rc 6 (λKK C=>?_);go_simp;refine C.out _ _ ?_ (λhHeld=>?_)
     ·refine Cs.far hHeld ((z4.refl (g0+1) _).set_ k _) ⟨?_,trivial⟩;show g0+1+1≠g0+1;omega
     clear C KK;refine zT ?_;clear hHeld aa ab;go_wp2;go_roundg (n - k)
     case measure=>omega
     case rel=>exact⟨k+1,zb,zb,by go_num,az.o,au.o,ag.o,ah.o⟩
  ·have hk:k=n:=zb;subst hk;have a0:decide ((k:Int)<(k:Int))=false:=zE;have HM:=za (TP (mS [] M k Q.o▸a) ac.o hn hm);obtain⟨p0,p1⟩:=H.c2;obtain⟨aa,ab,a5,a6⟩:=wS z (.slice (some ⟨g0+1,0,none⟩) k k);obtain⟨r0,r1⟩:=(wR z (.slice (some ⟨g0+1,0,none⟩) k k) (.int .i64 (m:Int))).c2;have HG:=za (ZZ HM.o (λad e=>by injection e with e;subst e;show g0<g0+1;omega) z hB a2);unfold mX at HG;clear a hB z H;go_wp2;refine bodyPost_ret (v:=.agg #[.slice (some ⟨g0+1,0,none⟩) k k,.int .i64 (m:Int)]) (by simp [results,results64,go_sem,r0,r1]) rfl ?_;exact HG.o
theorem dU {r:Rat}(h:zo w' r b A n c E k f)(hb:Below w.heap.size w w'):xe w r (.returned (.agg #[.bool b,.slice A n c,.slice E k f])) w':=⟨_,_,_,_,_,_,_,rfl,h,hb⟩
section
variable {A:ze}{n c m:Nat}{M:List (List Rat)}{w:World}
theorem Sk:∀(args:Array Value) (w':World),Sem.run prog (callFunc 126 args) w'=.ok (.enter 126 args) w':=Go.Proofs.enters_of func126 zP rfl
theorem Rz {gv:Nat}{V:ze}{cv:Nat}(h:yF w A n c m M)(hk:zh w g 28 #[.slice A n c,.int .i64 (m:Int)])(s:zh w gv 64 #[.slice V n cv])(hv:zU w V n cv xs)(hi:i<n)(hj:j<m+1):
  Calls prog 126 #[.int .i64 (i:Int),.int .i64 (j:Int),.pointer (some ⟨g,0,none⟩),.pointer (some ⟨gv,0,none⟩)] w (xe w (if j=m then xs.getD i 0 else zv M i j)):=by
 obtain⟨a,t,bz⟩:=zw w 41 #[.bool false,.slice none 0 0,.slice none 0 0];by_cases h1:j=m
 ·have e1:((j:Int)==(m:Int))=true:=by rw [beq_iff_eq];omega
  rw [if_pos h1];obtain⟨g0,g1⟩:=(zf a hk).c2;have y0:=(zf a s).c1;clear h1;obtain⟨ae,b1,B1,m1,d1,E1,u1,v1,rfl,-,h0,h2,h3,hq⟩:=hv.get (qZ _ w) hi;have h0:=zt a h0;have h1:=zt a h2;have h2:=zt a h3;have i1:(0:Int)<=(i:Int):=zb;have i2:(i:Int)<(n:Int):=zb;clear s;obtain⟨k,o,-⟩:=zw w 41 #[.bool b1,.slice B1 m1 d1,.slice E1 u1 v1];obtain⟨r0,r1,r2⟩:=o.c3;have HG:=za (dU (hq.below k) k);clear hq a t bz k o h hk hv;go_enter func126,ntmps126;go_wp2;refine bodyPost_ret (v:=.agg #[.bool b1,.slice B1 m1 d1,.slice E1 u1 v1]) (by simp [results,results126,go_sem,r0,r1,r2]) rfl ?_;exact HG.o
 ·have e1:((j:Int)==(m:Int))=false:=by rw [beq_eq_false_iff_ne];omega
  rw [if_neg h1];have hj:j<m:=zb;clear h1 s;obtain⟨ad,B,d,rfl,-,hc,ae,b1,B1,m1,d1,E1,u1,v1,rfl,-,h0,h1,h2,hq⟩:=h.place (qZ _ w) hi hj;obtain⟨g0,g1⟩:=(zf a hk).c2;obtain⟨hc,h0,h1,h2⟩:=xy a hc h0 h1 h2;have i1:(0:Int)<=(i:Int):=zb;have i2:(i:Int)<(n:Int):=zb;have i3:(0:Int)<=(j:Int):=zb;have i4:(j:Int)<(m:Int):=zb;obtain⟨k,o,-⟩:=zw w 41 #[.bool b1,.slice B1 m1 d1,.slice E1 u1 v1];obtain⟨r0,r1,r2⟩:=o.c3;have HG:=za (dU (hq.below k) k);clear hq a t bz k o h hk hv;go_enter func126,ntmps126;go_wp2;refine bodyPost_ret (v:=.agg #[.bool b1,.slice B1 m1 d1,.slice E1 u1 v1]) (by simp [results,results126,go_sem,r0,r1,r2]) rfl ?_;exact HG.o
theorem kU:∀(args:Array Value) (w':World),Sem.run prog (callFunc 65 args) w'=.ok (.enter 65 args) w':=Go.Proofs.enters_of func65 zP rfl
theorem iZ {gs:Nat}{q:Nat}(h:y5 (zY zo) w Q n M)(hd:zM M n m)(hk:zh w gs 26 #[.slice Q n q])(hi:i<n)(hj:j<m):Calls prog 65 #[.int .i64 (i:Int),.int .i64 (j:Int),.pointer (some ⟨gs,0,none⟩)] w (xe w (zv M i j)):=by
 obtain⟨a,k,bz⟩:=zw w 41 #[.bool false,.slice none 0 0,.slice none 0 0];obtain⟨ad,B,d,rfl,-,hc,hv⟩:=h.get (zN zS) (qZ _ w) hi (hd.row hi);obtain⟨ae,b1,B1,m1,d1,E1,u1,v1,rfl,-,h0,h1,h2,hq⟩:=zU.get hv (qZ _ w) hj;obtain⟨hc,h0,h1,h2⟩:=xy a hc h0 h1 h2;have g0:=(zf a hk).c1;have i1:(0:Int)<=(i:Int):=zb;have i2:(i:Int)<(n:Int):=zb;have i3:(0:Int)<=(j:Int):=zb;have i4:(j:Int)<(m:Int):=zb;obtain⟨c,g,-⟩:=zw w 41 #[.bool b1,.slice B1 m1 d1,.slice E1 u1 v1];obtain⟨r0,r1,r2⟩:=g.c3;have HG:=za (dU (hq.below c) c);clear hq a k bz c g h hk hv hd;go_enter func65,ntmps65;go_wp2;refine bodyPost_ret (v:=.agg #[.bool b1,.slice B1 m1 d1,.slice E1 u1 v1]) (by simp [results,results65,go_sem,r0,r1,r2]) rfl ?_;exact HG.o
theorem kT:∀(args:Array Value) (w':World),Sem.run prog (callFunc 61 args) w'=.ok (.enter 61 args) w':=Go.Proofs.enters_of func61 zP rfl
theorem Qv {k:Nat}{V:ze}{cv:Nat}(hk:zh w gc 3 #[.int .i64 z]):Calls prog 61 #[.slice V k cv,.pointer (some ⟨gc,0,none⟩)] w (λe w'=>e=.returned (.bool (!decide ((k:Int)=z)))/\Below w.heap.size w w'):=by
 have g0:=hk.c1;obtain⟨b,hb⟩:∃b,(!decide ((k:Int)=z))=b:=⟨_,rfl⟩;have hb2:((k:Int) !=z)=b:=by rw [<-hb];by_cases q:(k:Int)=z<;>simp [q]
 rw [hb];clear hk hb;go_enter func61,ntmps61;go_wp2;go_ret;exact⟨rfl,qZ _ _⟩
end
theorem rT {r c:Int}(h:sx r c=b)(w:World):Calls prog 62 #[.int .i64 r,.int .i64 c] w (λe w'=>e=.returned (.bool b)/\w=w'):=h▸nT r c w
theorem kY (fn:Fn)(first cap:Array Value)(w:World):(Instr.makeFunc fn first cap).run prog w=.ok (.func fn first cap) w:=rfl
section
variable {A:ze}{n c m K:Nat}{MM:List (List Rat)}{w:World}
end
def tz (M:List (List Rat))(z:Int):Bool:=M.any λL=> !decide (((L.length:Nat):Int)=z)
theorem sT {α:Type}(p:α->Bool)(xs:List α)(d:α)(k:Nat)(h:k<xs.length):(xs.take (k+1)).any p=((xs.take k).any p||p (xs.getD k d)):=by
 rw [qE h,List.any_append,qQ,qX h];simp
theorem kH {α:Type}(p:α->Bool)(xs:List α)(d:α)(k:Nat)(h:k<xs.length)(hp:p (xs.getD k d)=true):xs.any p=true:=by
 refine List.any_eq_true.2 ⟨xs.getD k d,?_,hp⟩;rw [qQ,qX h];exact xS h
theorem rj (h:zM M n m):tz M (m:Int)=false:=by
 unfold tz;refine List.any_eq_false.2 λL hL=>?_;have:=h.cols L hL;simp;omega
theorem Sa {q:Nat}(h:y5 (zY zo) w Q n M)(hk:zh w gc 3 #[.int .i64 z])(hn:n<=1048576):
  Calls prog 115 #[.slice Q n q,.func (.func 61) #[] #[.pointer (some ⟨gc,0,none⟩)]] w (λe w'=>∃k:Int,e=.returned (.int .i64 k)/\decide (k>=0)=tz M z/\Below w.heap.size w w'):=by
 have hl:=h.len;have HL:=za hl;have HR:=za h;have HK:=zj w (λw' hb=>zf hb hk);have hEn:=kT;have hB:=qZ w.heap.size w;have HS:zd (∀k,k<n->(M.take (k+1)).any (λL:List Rat=> !decide (((L.length:Nat):Int)=z))=((M.take k).any (λL:List Rat=> !decide (((L.length:Nat):Int)=z))||(λL:List Rat=> !decide (((L.length:Nat):Int)=z)) (M.getD k []))):=λk hk=>sT (λL:List Rat=> !decide (((L.length:Nat):Int)=z)) M [] k zb;have HA:zd (∀k,k<n->(λL:List Rat=> !decide (((L.length:Nat):Int)=z)) (M.getD k [])=true->M.any (λL:List Rat=> !decide (((L.length:Nat):Int)=z))=true):=λk hk=>kH (λL:List Rat=> !decide (((L.length:Nat):Int)=z)) M [] k zb;have i0:(0:Int)<=(n:Int):=zb;clear h hk hl;unfold tz;go_enter func115,ntmps115;go_wp2_with fail
 go_loopg [8] (n+1) (λg ix wr=>∃(k:Nat),k<=n/\n<g+k/\ix=.int .i64 k/\zd ((M.take k).any (λL:List Rat=> !decide (((L.length:Nat):Int)=z))=false)/\Below w.heap.size w wr)
 case atStart=>exact⟨0,qN _,zb,rfl,rfl,hB⟩
 case round=>
  clear hB;obtain⟨k,hkn,hg,rfl,m,hB⟩:=hrel;by_cases hlt:k<n
  ·have o:decide ((k:Int)<(n:Int))=true:=decide_eq_true zb;have i1:(0:Int)<=(k:Int):=zb;have i2:(k:Int)<(n:Int):=zb;have j:=za (HS.o k hlt);have i:=za (HA.o k hlt);obtain⟨ad,B,d,rfl,-,hc,-⟩:=HR.o.get (zN zS) hB hlt rfl;obtain⟨L,hL⟩:∃L,M.getD k []=L:=⟨_,rfl⟩;rw [hL] at hc;rw [hL] at j i;obtain⟨b,c⟩:∃b,(!decide (((L.length:Nat):Int)=z))=b:=⟨_,rfl⟩;rw [c] at j i;have HC:∀W,Below w.heap.size w W->zd (Calls prog 61 #[.slice B L.length d,.pointer (some ⟨gc,0,none⟩)] W (λe w'=>e=.returned (.bool b)/\Below W.heap.size W w')):=λW hW=>by
    have q:=Qv (V:=B) (cv:=d) (k:=L.length) (HK.o W hW);rw [c] at q;exact q
   have HB:=za hB;clear hB hL;cases b
   ·go_wp2_with fail;refine(HC _ HB.o).o.mono ?_;rintro e w3 ⟨rfl,hb⟩;have HZ:zd ((M.take (k+1)).any (λL:List Rat=> !decide (((L.length:Nat):Int)=z))=false):=by show _=_;rw [j.o,m.o];rfl
    have a:=za (zc HB.o hb);clear hb c hc HC;go_wp2;go_roundg (n - k)
    case measure=>omega
    case rel=>exact⟨k+1,zb,zb,by go_num,HZ,a.o⟩
   ·go_wp2_with fail;refine(HC _ HB.o).o.mono ?_;rintro e w3 ⟨rfl,hb⟩;have HZ:=za (i.o (by first|rfl|trivial));have a:=za (zc HB.o hb);clear hb c hc HC;go_wp2;go_ret;exact⟨(k:Int),rfl,by rw [HZ.o];exact decide_eq_true zb,a.o⟩
  ·have o:decide ((k:Int)<(n:Int))=false:=decide_eq_false zb;have HF:zd (M.any (λL:List Rat=> !decide (((L.length:Nat):Int)=z))=false):=by
    have h1:=m.o;rw [qU (by have:=HL.o;omega)] at h1;exact h1
   have a:=za hB;clear hB;go_wp2;go_ret;exact⟨-1,rfl,by rw [HF.o];rfl,a.o⟩
theorem Tt {q:Nat}(h:y5 (zY zo) w Q n M)(hk:zh w gc 3 #[.int .i64 z])(hn:n<=1048576):
  Calls prog 63 #[.slice Q n q,.func (.func 61) #[] #[.pointer (some ⟨gc,0,none⟩)]] w (λe w'=>e=.returned (.bool (tz M z))/\Below w.heap.size w w'):=by
 have H:=za (Sa (q:=q) h hk hn);obtain⟨b,hb⟩:∃b,tz M z=b:=⟨_,rfl⟩;rw [hb] at H⊢;clear h hk hb;go_enter func63,ntmps63;go_wp2_with fail;refine H.o.mono ?_;rintro e w1 ⟨k,rfl,hk,hb⟩;have hk2:decide (0<=k)=b:=hk;have HB:=za hb;clear hb;go_wp2;go_ret;exact⟨rfl,HB.o⟩
section
variable {Q:ze}{n q:Nat}{M:List (List Rat)}{z:Int}{w:World}
theorem fG {m K:Nat}(hT:zu w)(h:y5 (zY zo) w Q n M)(hd:zM M n m)(hn:n<=64)(hm:m<=64)(z:zV K M)(hK:K+2<=67108864:=by omega):Calls prog 21 #[.int .i64 (m:Int),.slice Q n q] w (iw w n m M):=by
 have hmf:=kY;obtain⟨k,a,o,t,bz⟩:=yn w 3 26 28 #[.int .i64 (m:Int)] #[.slice Q n q] #[.slice none 0 0,.int .i64 0];have H:=λW=>za (rT (Uk hn hm) W);have hc:=Tt (q:=q) (h.below (zN zS) k) a zb;rw [rj hd] at hc;have HC:=za hc;have HM:zd (∀W,Below w.heap.size w W->zh W (w.heap.size+1) 26 #[.slice Q n q]->Calls prog 64 #[.int .i64 (n:Int),.int .i64 (m:Int),.func (.func 65) #[] #[.pointer (some ⟨w.heap.size+1,0,none⟩)]] W (mX W n m M)):=λW hW hk=>by
  have hh:=h.below (zN zS) hW;have q9:=Uj (K:=K) (zv M) 65 #[.pointer (some ⟨w.heap.size+1,0,none⟩)] n m W (hT.on hW) ⟨kU,λr c hr hc w' hb=>iZ (hh.below (zN zS) hb) hd (zf hb hk) hr hc⟩ (λr c hr hc=>z.at_ hd hr hc) hn hm hK;rw [hd.eq] at q9;exact q9
 have HK:=za t;have HS:=za o;have HB:=za k;have y0:=a.c1;have y1:=o.c1;have hl0:=a.lt;have s:=za a;clear k a o t bz hT h z hd hc;go_enter func21,ntmps21;go_wp2_with fail;refine(H _).o.mono ?_;rintro e w1 ⟨rfl,rfl⟩;go_wp2_with fail;refine HC.o.mono ?_;rintro e w1 ⟨rfl,hb⟩;have g:=za (zc HB.o hb);have i:=za (zf hb HK.o);have j:=za (zf hb HS.o);have y0:=(zf hb s.o).c1;have y1:=j.o.c1;clear hb HB HK HS s HC H;go_wp2_with fail;refine(HM.o _ g.o j.o).mono ?_;clear y0 y1;rintro e w3 ⟨A3,c3,rfl,y,u,hb⟩;have d:=zf hb i.o;obtain⟨sc0,sf0,sc1,sf1⟩:=wS d (.slice A3 n c3);obtain⟨r0,r1⟩:=(wR d (.slice A3 n c3) (.int .i64 (m:Int))).c2;have HG:=za (kV y (λad e=>qJ i.o.lt (u ad e)) d (zc g.o hb) zb);clear hb d y u i g HM j;go_wp2;refine bodyPost_ret (v:=.tuple #[.agg #[.slice A3 n c3,.int .i64 (m:Int)],.bool true]) (by simp [results,results21,go_sem,r0,r1]) rfl ?_;exact HG.o
end
theorem wM {zs:List Int}(h:∀z ∈ zs,-9223372036854775808<=z/\z<=9223372036854775807):zK 1 (y7 zs):=λx hx=>by
 obtain⟨z,hz,rfl⟩:=List.mem_map.1 hx;exact zm.whole (iA (h z hz).1 (h z hz).2) zg
theorem tZ (zs:List Int)(n:Nat)(hn:zs.length=n){w:World}{g:Nat}{t:TypeId}(h:zh w g t (zs.map (Value.int .i64)).toArray)(hz:∀z ∈ zs,-9223372036854775808<=z/\z<=9223372036854775807):tK w (some ⟨g,0,none⟩) n zs:=by
 subst hn;exact⟨rfl,λi hi=>by
  rw [qQ,qX hi];exact hz _ (xS hi),λi hi=>⟨_,rfl,by
  rw [vz,h.cell,qQ,qX hi];simp [hi]⟩⟩
theorem jh:uG zu (λ_=>False):=cD (λ_ h=>h) (λh=>h.elim) (λh=>h.elim) (λh=>h.elim)
theorem Qe {k:IntKind}{l:List Nat}(h:zH w w.heap.size 1 A n (zq k l))(hp:w.cell? p=some (.slice B m d))(u:Value):zH (w.setCell p u) (w.setCell p u).heap.size 1 A n (zq k l):=by
 refine⟨h.1,λhn=>?_⟩;obtain⟨ad,e,hb,hc⟩:=h.2 hn;refine⟨ad,e,by simpa using hb,λj v hv=>?_⟩;have h0:=hc j v hv;rw [XP w p (ad.add j) u (λe2=>?_)]
 ·exact h0
 ·have hm:=QJ hv;unfold zq at hm;obtain⟨z,_,rfl⟩:=List.mem_map.1 hm
  first
   |rw [e2,hp] at h0;cases h0
   |rw [<-e2,hp] at h0;cases h0
theorem Xl (h:zB w x A n c)(hp:w.cell? p=some (.slice B m d))(u:Value):zB (w.setCell p u) x A n c:=⟨Qe h.1 hp u,h.2⟩
theorem Pt {r:Rat}(h:y4 w r b A n c E k f)(hp:w.cell? p=some (.slice B m d))(u:Value):y4 (w.setCell p u) r b A n c E k f:=⟨⟨h.1.1,Xl h.1.2 hp u⟩,Xl h.2 hp u⟩
theorem jD {cs:Array Value}(h:sh w A n c xs)(hk:zh w g t cs)(hs:∀u ∈ cs.toList,∀b,u≠.bool b)(hp:w.cell? ⟨g,i,none⟩=some (.slice B m d))(u:Value):sh (w.setCell ⟨g,i,none⟩ u) A n c xs:=
 dH h hk hs (ya.of_far ((z4.refl g w).set_ i u)) (λh5=>Pt h5 hp u)
theorem PM (h:zB w x A n c)(k:zh w f t #[.slice none 0 0,.int .i64 0])(hn:0<n):∀ad,A=some ad->ad.block≠f:=by
 intro ad e hf;obtain⟨ad',e',_,hc⟩:=wB h.1 (k:=n - 1) zb;rw [e] at e';injection e' with e';subst e';have hm:Value.int .i64 (((dg 65536 x).getD (n - 1) 0:Nat):Int)∈(#[.slice none 0 0,.int .i64 0]:Array Value).toList:=by
  have hb:(ad.add (n - 1)).block=f:=by rw [y8];exact hf
  generalize ad.add (n - 1)=q at hb hc;obtain⟨bk,off,pr⟩:=q;simp only at hb;subst hb;unfold zh at k;cases pr with
  |none=>
    rw [show w.cell? ⟨bk,off,none⟩=_ from cell_of_row w bk off _ t (0,0) k,<-QM] at hc;exact QJ hc
  |some q=>simp [World.cell?,k] at hc
 have hx:x≠0:=λhx=>by have:=aJ h hx;omega
 have hl:=h.len;have hv:=vf (b:=65536) zg x;have hg:=(kE (b:=65536) zg x hx).2;have ht:=vT 65536 (dg 65536 x) (n - 1);have hd:=vg (b:=65536) (l:=(dg 65536 x).take (n - 1)) (λd hd=>vV zg x d (XY hd));rw [qB,<-hl,xZ zb] at hd;rw [show n - 1+1=n by omega,qU zb,hv] at ht;rw [<-hl] at hg;have hz:(dg 65536 x).getD (n - 1) 0=0:=by
  simp only [List.mem_cons,jY,or_false] at hm;rcases hm with hm|hm
  ·cases hm
  ·injection hm with _ hm;omega
 rw [hz,yZ] at ht;omega
theorem Xi (h:zB w x A n c)(k:zh w f t #[.slice none 0 0,.int .i64 0])(ho:z4 f w w'):zB w' x A n c:=by
 have a:=PM h k;refine⟨⟨h.1.1,λhn=>?_⟩,h.2⟩;obtain⟨ad,e,hb,hc⟩:=h.1.2 hn;refine⟨ad,e,by rw [ho.1];exact hb,λj v hv=>?_⟩;rw [ho.2 (ad.add j) (by rw [y8];exact a hn ad e)];exact hc j v hv
theorem Ps {r:Rat}{u v:Nat}(h:y4 w r b A n c E u v)(k:zh w f t #[.slice none 0 0,.int .i64 0])(ho:z4 f w w'):y4 w' r b A n c E u v:=⟨⟨h.1.1,Xi h.1.2 k ho⟩,Xi h.2 k ho⟩
theorem pg (h:sh w A n c xs)(hk:zh w g t #[.slice none 0 0,.int .i64 0])(x y:Value):sh ((w.setCell ⟨g,0,none⟩ x).setCell ⟨g,1,none⟩ y) A n c xs:=
 dH h hk (oB _ _ _ _) (ya.of_far (uj _ _ _ _)) (λh5=>Ps h5 hk (uj _ _ _ _))
theorem yk.slot {α:Type}{R:RP α}{Ls:List (List α)}{g i:Nat}{u:Value}(h:yk R w a t v Ls vs)(hg:g<a)(c:∀{B:ze} {m d:Nat} {L:List α},R w B m d L->R (w.setCell ⟨g,i,none⟩ u) B m d L):yk R (w.setCell ⟨g,i,none⟩ u) a t v Ls vs:=by
 refine⟨⟨h.own.1,?_⟩,h.sl.block (λg' e=>Below.heap_setCell _ _ _ _ ?_),λj L hj=>?_⟩
 ·rcases h.own.2 with h1|⟨g',cap,cur,e1,e2,e3,e4⟩
  ·exact .inl h1
  ·exact .inr ⟨g',cap,cur,e1,e2,(Below.heap_setCell w ⟨g,i,none⟩ u g' (by show g'≠g;omega)).trans e3,e4⟩
 ·have:=(h.own.lt g' e).1;show g'≠g;omega
 ·obtain⟨B,d,hv,hw⟩:=h.num j L hj;exact⟨B,d,hv,c hw⟩
structure yz (w:World)(A:ze)(n c m:Nat)(M:List (List Rat)):Prop where
 dims:zM M n m
 fits:n<=c
 most:c<=9223372036854775807
 hn:n<=64
 hm:m<=64
 rows:y5 (zY y4) w A n M
 ty:∀ad,A=some ad->vl w ad.block 79
theorem yz.keep {w':World}(h:yz w A n c m M)(hb:Below w.heap.size w w'):yz w' A n c m M:={h with rows:=h.rows.below (zN xu) hb,ty:=λad e=>(h.ty ad e).below hb}
theorem yz.nil (w:World)(m:Nat)(h:m<=64):yz w none 0 0 m []:=⟨VT m,qY _,zg,zg,h,y5.nil w none,λad e=>by cases e⟩
theorem yz.offz (h:yz w A n c m M)(hk:zh w g t #[.slice none 0 0,.int .i64 0])(x y:Value)(ht:79≠t:=by decide):yz ((w.setCell ⟨g,0,none⟩ x).setCell ⟨g,1,none⟩ y) A n c m M:=
 { h with
  rows:=h.rows.off (λad e=>(h.ty ad e).ne hk ht) (ya.of_far (uj _ _ _ _)) (λh3=>pg h3 hk x y)
  ty:=λad e=>((h.ty ad e).set_ _ _ _).set_ _ _ _}
theorem yz.slot {g:Nat}{p q:Nat}(h:yz w A n c m M)(hk:zh w g t #[.slice B p q,.int .i64 z])(u:Value)(ht:79≠t:=by decide):yz (w.setCell ⟨g,0,none⟩ u) A n c m M:=
 { h with
  rows:=h.rows.off (λad e=>(h.ty ad e).ne hk ht) (ya.of_far (qh _ _ _)) (λh3=>jD h3 hk (oB _ _ _ _) (hk.cell 0) u)
  ty:=λad e=>(h.ty ad e).set_ _ _ _}
theorem yz.row {m:Nat}(h:yz w A n c m M)(hb:Below w.heap.size w wr){i:Nat}(hi:i<n):∃(ad:Addr) (B:ze) (d:Nat),A=some ad/\ad.block<w.heap.size/\wr.cell? (ad.add i)=some (.slice B m d)/\sh wr B m d (M.getD i []):=
 h.rows.get (zN xu) hb hi (h.dims.row hi)
theorem yz.place (h:yz w A n c m M)(hb:Below w.heap.size w wr){i j:Nat}(hi:i<n)(hj:j<m):∃(ad:Addr) (B:ze) (d:Nat),A=some ad/\ad.block<w.heap.size/\wr.cell? (ad.add i)=some (.slice B m d)/\
  ∃(ae:Addr) (b1:Bool) (B1:ze) (m1 d1:Nat) (E1:ze) (u1 v1:Nat),B=some ae/\ae.block<wr.heap.size/\wr.cell? (ae.add (j*3))=some (.bool b1)/\wr.cell? ⟨(ae.add (j*3)).block,(ae.add (j*3)).off+1,none⟩=some (.slice B1 m1 d1)/\wr.cell? ⟨(ae.add (j*3)).block,(ae.add (j*3)).off+2,none⟩=some (.slice E1 u1 v1)/\y4 wr (zv M i j) b1 B1 m1 d1 E1 u1 v1:=by
 obtain⟨ad,B,d,e,h1,h2,h3⟩:=h.row hb hi;obtain⟨ae,b1,B1,m1,d1,E1,u1,v1,e4,h4,h5,h6,h7,h8⟩:=h3.get (qZ _ _) hj;exact⟨ad,B,d,e,h1,h2,ae,b1,B1,m1,d1,E1,u1,v1,e4,h4,h5,h6,h7,h8⟩
theorem yk.refm {n:Nat}(h:yk (zY y4) w a 79 v M vs)(hd:zM M n m)(hn:n<=64)(hm:m<=64):∃A c,v=.slice A n c/\yz w A n c m M:=by
 obtain⟨A,c,rfl,h1,h2,h3,h4⟩:=h.shape hd.rows;refine⟨A,c,rfl,hd,h1,h2,hn,hm,h3,λad e=>?_⟩;subst e;rcases h.own.2 with⟨e1,h0⟩|⟨g,cap,cur,e1,e2,e3,e4⟩
 ·cases e1
 ·injection e1 with e1 _ _;injection e1 with e1;subst e1;exact⟨cur,e3⟩
def mY (w:World)(n m:Nat)(M:List (List Rat))(e:Ending)(w':World):Prop:=∃(A:ze) (c:Nat),e=.returned (.agg #[.slice A n c,.int .i64 (m:Int)])/\yz w' A n c m M/\Below w.heap.size w w'
theorem kW {W:World}(h:yz W A n c m M)(k:zh W g 33 #[.slice none 0 0,.int .i64 0])(hB:Below w.heap.size w W)(hg:w.heap.size<=g):
  mY w n m M (.returned (.agg #[.slice A n c,.int .i64 (m:Int)])) ((W.setCell ⟨g,0,none⟩ (.slice A n c)).setCell ⟨g,1,none⟩ (.int .i64 (m:Int))):=
 ⟨A,c,rfl,h.offz k _ _,tA _ _ hg hB⟩
theorem aK:(prog.info? 79).map (λi=>(i.zero,i.size,i.bytes))=some (some (.slice none 0 0),1,24):=zP
