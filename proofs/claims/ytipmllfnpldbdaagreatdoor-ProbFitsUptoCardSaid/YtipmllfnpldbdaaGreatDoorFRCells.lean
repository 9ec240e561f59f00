/- What this claim leans on. -/
import Derived.Test.YtipmllfnpldbdaaGreatDoorFMMat
set_option linter.unusedVariables false
set_option linter.unusedSimpArgs false
namespace Go.Proofs.YtipmllfnpldbdaaGreatDoor
open Go Go.RowKit Go.Proofs.Tryz
set_option maxHeartbeats 16000000
variable {b:Bool}{c m n:Nat}{w:World}
section
variable {α:Type}{E:El α}
theorem yh.cells {ad:Addr}{xs:List α}(h:yh E w (some ad) n c xs):∃a:List Value,a.length=n*3/\(∀j u,a[j]?=some u->w.cell? (ad.add j)=some u)/\(∀u ∈ a,u.oneCell'=true)/\(∀u ∈ a,vV u)/\
  ∀i x,xs[i]?=some x->∃(b:Bool) (B:zf) (m d:Nat) (F:zf) (u f:Nat),a[i*3]?=some (.bool b)/\a[i*3+1]?=some (.slice B m d)/\a[i*3+2]?=some (.slice F u f)/\E w x b B m d F u f:=by
 have hl:=h.len;have hc:∀j,j<n*3->∃u,w.cell? (ad.add j)=some u/\u.oneCell'=true/\vV u:=λj hj=>by
  have hi:j / 3<n:=za;obtain⟨t,b,B,m,d,F,u,v,e,h1,h2,h3,h4,h5⟩:=h.num (j / 3) _ (qZ za);injection e with e;subst e;have y:j%3=0\/j%3=1\/j%3=2:=za;rcases y with h9|h9|h9
  ·exact⟨.bool b,by rw [show j=j / 3*3 by omega];exact h2,rfl,λk z e=>by cases e⟩
  ·exact⟨.slice B m d,by rw [show j=j / 3*3+1 by omega];exact h3,rfl,λk z e=>by cases e⟩
  ·exact⟨.slice F u v,by rw [show j=j / 3*3+2 by omega];exact h4,rfl,λk z e=>by cases e⟩
 have hg:∀j u,j<n*3->w.cell? (ad.add j)=some u->((List.range (n*3)).map λj=>(w.cell? (ad.add j)).getD (.bool false))[j]?=some u:=λj u hj hu=>by
  rw [QM,XW hj];show some ((w.cell? (ad.add j)).getD (.bool false))=some u;rw [hu];rfl
 refine⟨(List.range (n*3)).map λj=>(w.cell? (ad.add j)).getD (.bool false),zD,λj u hj=>?_,λu hu=>?_,λu hu=>?_,λi x hi=>?_⟩
 ·have g:j<n*3:=by
   have:=(List.getElem?_eq_some_iff.1 hj).1;simpa using this
  obtain⟨u',h1,-,-⟩:=hc j g;rw [hg j u' g h1] at hj;injection hj with hj;rw [<-hj];exact h1
 ·obtain⟨j,hj,rfl⟩:=List.mem_map.1 hu;obtain⟨u',h1,h2,-⟩:=hc j (List.mem_range.1 hj);rw [h1];exact h2
 ·obtain⟨j,hj,rfl⟩:=List.mem_map.1 hu;obtain⟨u',h1,-,h2⟩:=hc j (List.mem_range.1 hj);rw [h1];exact h2
 ·have g:=(List.getElem?_eq_some_iff.1 hi).1;obtain⟨t,b,B,m,d,F,u,v,e,h1,h2,h3,h4,h5⟩:=h.num i x hi;injection e with e;subst e;exact⟨b,B,m,d,F,u,v,hg _ _ za h2,hg _ _ za h3,hg _ _ za h4,h5⟩
end
set_option maxRecDepth 100000
theorem sD (n m:Nat)(f:Nat->Nat->Rat):(vU n m f).length=n:=by simp [vU]
theorem sC (f:Nat->Nat->Rat){r:Nat}(h:r<n):(vU n m f)[r]?=some ((List.range m).map (f r)):=by
 unfold vU;rw [QM,XW h];rfl
theorem Yj (m:Nat)(f:Nat->Rat):((List.range m).map f).length=m:=zD
theorem Yi (f:Nat->Rat){c:Nat}(h:c<m):((List.range m).map f)[c]?=some (f c):=by
 rw [QM,XW h];rfl
theorem Zu {g:Nat}{M:List (List Rat)}(h:y8 (yh zt) w 32 g n M)(hd:wZ M n m)(hn:n<=64)(hm:m<=64):xl w (some ⟨g,0,none⟩) n n m M:=⟨hd,qX _,za,hn,hm,h.rows,λad e=>by obtain⟨cs,hk,_⟩:=h.blk;injection e with e;subst e;exact⟨cs,hk⟩⟩
def rK (f:Nat->Nat->Rat)(F:FuncId)(cap:Array Value)(n m:Nat)(w:World):Prop:=
 (∀ (args : Array Value) (w' : World),Sem.run prog (callFunc F args) w' = .ok (.enter F args) w') ∧
   ∀r c,r<n->c<m->∀w',Below w.heap.size w w'->Calls prog F (#[.int .i64 (r:Int),.int .i64 (c:Int)]++cap) w' (yc w' (f r c))
theorem tO {K:Nat}(f:Nat->Nat->Rat)(F:FuncId)(ao:Array Value)(n m:Nat)(w:World)(hT:zu w)(hG:rK f F ao n m w)(hS:∀r c,r<n->c<m->zp K (f r c))(hn:n<=64:=by omega)(hm:m<=64:=by omega)(hK:K+2<=67108864:=by omega):
  Calls prog 83 #[.int .i64 (n:Int),.int .i64 (m:Int),.func (.func F) #[] ao] w (lI w n m (vU n m f)):=by
 obtain⟨hEn,hF⟩:=hG;have HF:=zd hF;have HT:=zm w (λw' hb=>hT.on hb);have S:=zd (sD n m f);have Q:zg (∀r,r<n->(vU n m f)[r]?=some ((List.range m).map (f r))):=λr hr=>sC f hr;have af:zg (∀r c,c<m->((List.range m).map (f r))[c]?=some (f r c)):=λr c hc=>Yi (f r) hc;have aj:zg (∀r,((List.range m).map (f r)).length=m):=λr=>Yj m (f r);have an:zg (∀r,r<n->zH K ((List.range m).map (f r))):=λr hr x hx=>by
  obtain⟨c,hc,rfl⟩:=List.mem_map.1 hx;exact hS r c hr (List.mem_range.1 hc)
 have ae:=zd (Ve n m f);obtain⟨H,O⟩:∃H:Nat->List Rat,(λr=>(List.range m).map (f r))=H:=⟨_,rfl⟩;have G:∀r,(List.range m).map (f r)=H r:=λr=>by rw [<-O]
 simp only [G] at Q af aj an;obtain⟨M,hM⟩:∃M,vU n m f=M:=⟨_,rfl⟩;rw [hM] at S Q ae⊢;obtain⟨Z,hZ⟩:=ov m za;have HMK:∀W,(Instr.makeSlice 32 (.int .i64 (m:Int)) (.int .i64 (m:Int))).run prog W=.ok (.slice (some ⟨W.heap.size,0,none⟩) m m) (W.alloc (.cells Z 60)):=λW=>(hZ W).1;have al:=zd (λW=>(hZ W).2);obtain⟨Y,hY⟩:=WZ n za;have ak:∀W,(Instr.makeSlice 28 (.int .i64 (n:Int)) (.int .i64 (n:Int))).run prog W=.ok (.slice (some ⟨W.heap.size,0,none⟩) n n) (W.alloc (.cells Y 32)):=λW=>(hY W).1;have C:=zd (λW=>(hY W).2);obtain⟨b1,b2,b3,b4,b5⟩:=yd w 30 32 30 #[.slice none 0 0,.int .i64 0] Y #[.slice (some ⟨w.heap.size+1,0,none⟩) n n,.int .i64 (m:Int)];clear hT hF hS O G hM hZ hY;unfold lI;have i0:(0:Int)<=(n:Int):=za;have i1:(0:Int)<=(m:Int):=za;go_enter func83,ntmps83;go_wp2_with fail;have a:y8 (yh zt) (((w.alloc (.cells #[.slice none 0 0,.int .i64 0] 30)).alloc (.cells Y 32)).alloc (.cells #[.slice (some ⟨w.heap.size+1,0,none⟩) n n,.int .i64 (m:Int)] 30)) 32 (w.heap.size+1) n (wF [] M n 0):=by
  have h1:=C.o (w.alloc (.cells #[.slice none 0 0,.int .i64 0] 30));have e1:(w.alloc (.cells #[.slice none 0 0,.int .i64 0] 30)).heap.size=w.heap.size+1:=zD;rw [e1] at h1;rw [pK];exact h1.below (vO yx) (zF _ _ _).1
 clear b3 C ak;obtain⟨g0,T⟩:∃g,w.heap.size=g:=⟨_,rfl⟩;have a4:w.heap.size<=g0:=za;rw [T] at a b1 b2 b4 b5⊢;generalize ((w.alloc (.cells #[.slice none 0 0,.int .i64 0] 30)).alloc (.cells Y 32)).alloc (.cells #[.slice (some ⟨g0+1,0,none⟩) n n,.int .i64 (m:Int)] 30)=W1 at*;rw [<-T] at b1;clear T
 go_loopg [18] (n+1) (λg ix wr=>∃(k:Nat),k<=n/\n<g+k/\ix=.int .i64 k/\y8 (yh zt) wr 32 (g0+1) n (wF [] M n k)/\Below w.heap.size w wr/\zi wr g0 30 #[.slice none 0 0,.int .i64 0]/\zi wr (g0+1+1) 30 #[.slice (some ⟨g0+1,0,none⟩) n n,.int .i64 (m:Int)])
 case atStart=>exact⟨0,QE _,za,rfl,a,b1,b2,b4⟩
 case round=>
  clear a b1 b2 b4 b5;obtain⟨k,hkn,hg,rfl,a,hB,A,I⟩:=hrel;obtain⟨wo,a5⟩:∃wo,wo=wr:=⟨_,rfl⟩;subst a5;by_cases hlt:k<n
  ·have a2:decide ((k:Int)<(n:Int))=true:=decide_eq_true za;have i2:(0:Int)<=(k:Int):=za;have i3:(k:Int)<(n:Int):=za;have hg1:=a.lt;have am:=zd a;have HB:=zd hB;have ay:=zd A;have az:=zd I;have L:=zd (af.o k);have y:=zd (aj.o k);have N:=zd (an.o k hlt);have J:=zd (Q.o k hlt);obtain⟨R,hR⟩:∃R,H k=R:=⟨_,rfl⟩;rw [hR] at L y N J;clear a hB A I hR;go_wp2_with fail;have i:=al.o wo;have d:Below wo.heap.size wo (wo.alloc (.cells Z 60)):=(qY _ wo).alloc (qX _) _;rw [<-pK 0 R m] at i;obtain⟨gr,ap⟩:∃g,wo.heap.size=g:=⟨_,rfl⟩;have a6:wo.heap.size<=gr:=za;rw [ap] at i⊢;generalize wo.alloc (.cells Z 60)=W2 at*;clear ap
   go_loopg [25] (m+1) (λg jx wr=>∃(j:Nat),j<=m/\m<g+j/\jx=.int .i64 j/\yk wr gr m (wF 0 R m j)/\Below wo.heap.size wo wr)
   case atStart=>exact⟨0,QE _,za,rfl,i,d⟩
   case round=>
    clear i d;obtain⟨j,hjm,hg2,rfl,i,d⟩:=hrel;by_cases hjl:j<m
    ·have a3:decide ((j:Int)<(m:Int))=true:=decide_eq_true za;have i4:(0:Int)<=(j:Int):=za;have i5:(j:Int)<(m:Int):=za;have ag:=zd i;have P:=zd d;have ax:=zd (L.o j hjl);clear i d;go_wp2_with fail;refine(HF.o k j hlt hjl _ (ze HB.o P.o)).mono ?_;rintro e w3 ⟨b3,A3,n3,c3,E3,k3,f3,rfl,ar,hb⟩;have U:=ag.o.keep hb;have V:=y6.set_ yx U hjl ar;rw [pM 0 R m j y.o hjl _ ax.o] at V;obtain⟨q0,q1,q2,ab,ac,a7,a8,sc2,sf2⟩:=U.ready hjl (.bool b3) (.slice A3 n3 c3);have a0:=zd V;have av:=zd (pI (j*3) (j*3+1) (j*3+2) (.bool b3) (.slice A3 n3 c3) (.slice E3 k3 f3) a6 (ze P.o hb));clear U V hb ar ag P;go_wp2;go_roundg (m - j)
     case measure=>omega
     case rel=>exact⟨j+1,za,za,by go_num,a0.o,av.o⟩
    ·have hj:j=m:=za;subst hj;have a3:decide ((j:Int)<(j:Int))=false:=zD;have HV:=zd (wg (pL 0 R j y.o▸i));have au:=zj d az.o;have h:=zd (am.o.below (vO yx) d);have B:=zd (ze HB.o d);have t:=zd (zj d ay.o);have u:=zd au;obtain⟨p0,p1⟩:=au.c2;have z:=(qY wr.heap.size wr).drew;clear i d;go_wp2_with fail;refine rg (zk p0 zP) (λhHeld=>?_);clear p0 p1;have HV:=zd (HV.o.keep z);have h:=zd (h.o.below (vO yx) z);have B:=zd (ze B.o z);have t:=zd (zj z t.o);have u:=zd (zj z u.o);clear z;generalize wr.drew=D at*;refine tk 0 ?_;refine tk 1 ?_;refine tk 2 ?_;refine tk 3 ?_;refine rc 4 (λKK E=>?_);go_simp;(with_reducible refine(ik (HT.o _ B.o) HV.o N.o).mono ?_);rintro e w5 ⟨g5,rfl,hg5,aq,hb⟩;refine E.out _ _ (Cs.below hHeld hb) (λhHeld=>?_);clear E KK;have X:=h.o.below (vO yx) hb;have aa:=y8.set_ (vO yx) X hlt (wg aq) y.o;rw [pM [] M n k S.o hlt _ J.o] at aa;obtain⟨q0,ab,ac⟩:=X.ready hlt;have hne:g0+1+1≠g0+1:=za;have a1:=zd aa;have aw:=zd (zG (p:=⟨g0+1,k,none⟩) (.slice (some ⟨g5,0,none⟩) j j) (show w.heap.size<=g0+1 by omega) (ze B.o hb));have ah:=zd (zi.far (p:=⟨g0+1,k,none⟩) (zj hb t.o) (by show g0≠g0+1;omega) (.slice (some ⟨g5,0,none⟩) j j));have ai:=zd (zi.far (p:=⟨g0+1,k,none⟩) (zj hb u.o) (by show g0+1+1≠g0+1;omega) (.slice (some ⟨g5,0,none⟩) j j));clear hb X aa aq h B t u HV;refine tk 5 ?_;refine rc 6 (λKK E=>?_);go_simp;refine E.out _ _ ?_ (λhHeld=>?_)
     ·refine Cs.far hHeld ((xe.refl (g0+1) _).set_ k _) ⟨?_,trivial⟩;show g0+1+1≠g0+1;omega
     clear E KK;refine yb ?_;clear hHeld ab ac;go_wp2;go_roundg (n - k)
     case measure=>omega
     case rel=>exact⟨k+1,za,za,by go_num,a1.o,aw.o,ah.o,ai.o⟩
  ·have hk:k=n:=za;subst hk;have a2:decide ((k:Int)<(k:Int))=false:=zD;have HM:=zd (Zu (pL [] M k S.o▸a) ae.o hn hm);obtain⟨p0,p1⟩:=I.c2;obtain⟨ab,ac,a7,a8⟩:=ol A (.slice (some ⟨g0+1,0,none⟩) k k);obtain⟨r0,r1⟩:=(oj A (.slice (some ⟨g0+1,0,none⟩) k k) (.int .i64 (m:Int))).c2;have HG:=zd (aC HM.o (λad e=>by injection e with e;subst e;show g0<g0+1;omega) A hB a4);unfold lI at HG;clear a hB A I;go_wp2;refine bodyPost_ret (v:=.agg #[.slice (some ⟨g0+1,0,none⟩) k k,.int .i64 (m:Int)]) (by simp [results,results83,go_sem,r0,r1]) rfl ?_;exact HG.o
theorem aE {w':World}{r:Rat}{A E:zf}{k f:Nat}(h:zt w' r b A n c E k f)(hb:Below w.heap.size w w'):yc w r (.returned (.agg #[.bool b,.slice A n c,.slice E k f])) w':=⟨_,_,_,_,_,_,_,rfl,h,hb⟩
section
variable {A:zf}{n c m:Nat}{M:List (List Rat)}{w:World}
theorem oT:∀(args:Array Value) (w':World),Sem.run prog (callFunc 84 args) w'=.ok (.enter 84 args) w':=Go.Proofs.enters_of func84 zV rfl
theorem mR {gs i j:Nat}{Q:zf}{q:Nat}(h:wf (yh zt) w Q n M)(hd:wZ M n m)(hk:zi w gs 28 #[.slice Q n q])(hi:i<n)(hj:j<m):Calls prog 84 #[.int .i64 (i:Int),.int .i64 (j:Int),.pointer (some ⟨gs,0,none⟩)] w (yc w (vI M i j)):=by
 obtain⟨a,u,bz⟩:=zF w 60 #[.bool false,.slice none 0 0,.slice none 0 0];obtain⟨ad,B,d,rfl,-,hc,hv⟩:=h.get (vO yx) (qY _ w) hi (hd.row hi);obtain⟨ae,b1,B1,m1,d1,E1,u1,v1,rfl,-,h0,h1,h2,hq⟩:=zy.get hv (qY _ w) hj;obtain⟨hc,h0,h1,h2⟩:=sM a hc h0 h1 h2;have g0:=(zj a hk).c1;have i1:(0:Int)<=(i:Int):=za;have i2:(i:Int)<(n:Int):=za;have i3:(0:Int)<=(j:Int):=za;have i4:(j:Int)<(m:Int):=za;obtain⟨g,t,-⟩:=zF w 60 #[.bool b1,.slice B1 m1 d1,.slice E1 u1 v1];obtain⟨r0,r1,r2⟩:=t.c3;have HG:=zd (aE (hq.below g) g);clear hq a u bz g t h hk hv hd;go_enter func84,ntmps84;go_wp2;refine bodyPost_ret (v:=.agg #[.bool b1,.slice B1 m1 d1,.slice E1 u1 v1]) (by simp [results,results84,go_sem,r0,r1,r2]) rfl ?_;exact HG.o
theorem oS:∀(args:Array Value) (w':World),Sem.run prog (callFunc 80 args) w'=.ok (.enter 80 args) w':=Go.Proofs.enters_of func80 zV rfl
theorem Wu {gc k:Nat}{V:zf}{cv:Nat}{z:Int}(hk:zi w gc 3 #[.int .i64 z]):Calls prog 80 #[.slice V k cv,.pointer (some ⟨gc,0,none⟩)] w (λe w'=>e=.returned (.bool (!decide ((k:Int)=z)))/\Below w.heap.size w w'):=by
 have g0:=hk.c1;obtain⟨b,hb⟩:∃b,(!decide ((k:Int)=z))=b:=⟨_,rfl⟩;have hb2:((k:Int) !=z)=b:=by rw [<-hb];by_cases q:(k:Int)=z<;>simp [q]
 rw [hb];clear hk hb;go_enter func80,ntmps80;go_wp2;go_ret;exact⟨rfl,qY _ _⟩
end
theorem jY {r:Int}(e:xm r n=b)(A:zf)(c:Nat)(z:Int)(w:World):Calls prog 53 #[.agg #[.slice A n c,.int .i64 z],.int .i64 r] w (λe w'=>e=.returned (.bool b)/\Below w.heap.size w w'):=e▸Xd A n c z r w
theorem eM {r:Int}(e:xm r m=b)(A:zf)(n c:Nat)(w:World):Calls prog 54 #[.agg #[.slice A n c,.int .i64 (m:Int)],.int .i64 r] w (λe w'=>e=.returned (.bool b)/\Below w.heap.size w w'):=e▸Xc A n c m r w
section
variable {A:zf}{n c m K:Nat}{MM:List (List Rat)}{w:World}
theorem tL {i j:Nat}(hT:zu w)(h:xl w A n c m MM)(z:wQ K MM)(hi:i<n)(hj:j<m)(hK:K+2<=67108864:=by omega):
  Calls prog 17 #[.agg #[.slice A n c,.int .i64 (m:Int)],.int .i64 (i:Int),.int .i64 (j:Int)] w (yc w (vI MM i j)):=by
 have HR:=λW=>zd (jY (bL hi) A c (m:Int) W);have HC:=λW=>zd (eM (bL hj) A n c W);obtain⟨L,C,M,bz⟩:=ya w 30 60 #[.slice A n c,.int .i64 (m:Int)] #[.bool false,.slice none 0 0,.slice none 0 0];obtain⟨g0,g1⟩:=C.c2;have HM:=zd h;have HS:=zd (z.at_ h.dims hi hj);have HT:=zm w (λw' hb=>hT.on hb);have HB:=zd L;have E:=zd C;have F:=zd M;clear hT h z L C M bz;go_enter func17,ntmps17;go_wp2_with fail;refine(HR _).o.mono ?_;rintro e w1 ⟨rfl,hb⟩;have D:=zd (ze HB.o hb);have x:=zd (zj hb E.o);have G:=zd (zj hb F.o);obtain⟨g0,g1⟩:=x.o.c2;clear hb HB E F;go_wp2_with fail;refine(HC _).o.mono ?_;rintro e w2 ⟨rfl,hb⟩;have t:=zd (ze D.o hb);have H:=zd (zj hb x.o);have I:=zd (zj hb G.o);obtain⟨g0,g1⟩:=H.o.c2;clear hb D x G;obtain⟨ad,B,d,rfl,-,hc,ae,b3,A3,n3,c3,E3,k3,f3,rfl,-,h0,h1,h2,N⟩:=HM.o.place t.o hi hj;have i1:(0:Int)<=(i:Int):=za;have i2:(i:Int)<(n:Int):=za;have i3:(0:Int)<=(j:Int):=za;have i4:(j:Int)<(m:Int):=za;obtain⟨t1,t2,-⟩:=zF w2 60 #[.bool b3,.slice A3 n3 c3,.slice E3 k3 f3];have HL:=zd (il t2 (N.below t1));have u:=zd (ze t.o t1);have J:=zd (zj t1 I.o);have O:zg (zH K [vI MM i j]):=λy hy=>by rw [List.mem_singleton.1 hy];exact HS.o
 clear N t1 t2 H I t;go_wp2_with fail;(with_reducible refine(kk (HT.o _ u.o) HL.o O.o zh za).mono ?_);rintro e w5 ⟨b5,A5,n5,c5,E5,k5,f5,rfl,a,hb⟩;have a:zt w5 (vI MM i j) b5 A5 n5 c5 E5 k5 f5:=by
  have e:ul [vI MM i j]=vI MM i j:=by rw [jT,eX,YB]
  rw [e] at a;exact a
 have g:=zj hb J.o;obtain⟨sc0,sf0,sc1,sf1,sc2,sf2⟩:=yg g (.bool b5) (.slice A5 n5 c5);obtain⟨r0,r1,r2⟩:=(yf g (.bool b5) (.slice A5 n5 c5) (.slice E5 k5 f5)).c3;have HG:=zd (xu a g (ze u.o hb) za);clear hb g a J u HL g0 g1 hc h0 h1 h2;go_wp2;refine bodyPost_ret (v:=.agg #[.bool b5,.slice A5 n5 c5,.slice E5 k5 f5]) (by simp [results,results17,go_sem,r0,r1,r2]) rfl ?_;exact HG.o
theorem Va {r s:Int}(h:xm r n=false\/xm s m=false):
  Calls prog 17 #[.agg #[.slice A n c,.int .i64 (m:Int)],.int .i64 r,.int .i64 s] w (yc w 0):=by
 obtain⟨x,i,y,bz⟩:=ya w 30 60 #[.slice A n c,.int .i64 (m:Int)] #[.bool false,.slice none 0 0,.slice none 0 0];obtain⟨g0,g1⟩:=i.c2;have HB:=zd x;have g:=zd i;have d:=zd y;clear x i y bz;by_cases hr:xm r n=true
 ·have hs:xm s m=false:=by
   rcases h with h|h
   ·rw [hr] at h;cases h
   ·exact h
  have HR:=λW=>zd (jY hr A c (m:Int) W);have HC:=λW=>zd (eM hs A n c W);clear h hr hs;go_enter func17,ntmps17;go_wp2_with fail;refine(HR _).o.mono ?_;rintro e w1 ⟨rfl,hb⟩;have j:=zd (ze HB.o hb);have t:=zd (zj hb g.o);have u:=zd (zj hb d.o);obtain⟨g0,g1⟩:=t.o.c2;clear hb HB g d;go_wp2_with fail;refine(HC _).o.mono ?_;rintro e w2 ⟨rfl,hb⟩;have a:=zj hb u.o;obtain⟨z,D,B,E,C,F⟩:=yg a (.bool false) (.slice none 0 0);obtain⟨r0,r1,r2⟩:=(yf a (.bool false) (.slice none 0 0) (.slice none 0 0)).c3;have HG:=zd (xu (mo _) a (ze j.o hb) za);clear hb a j t u g0 g1;go_wp2;refine bodyPost_ret (v:=.agg #[.bool false,.slice none 0 0,.slice none 0 0]) (by simp [results,results17,go_sem,r0,r1,r2]) rfl ?_;exact HG.o
 ·have HR:=λW=>zd (jY (by cases q:xm r n;rfl;exact absurd q hr) A c (m:Int) W);clear h hr;go_enter func17,ntmps17;go_wp2_with fail;refine(HR _).o.mono ?_;rintro e w2 ⟨rfl,hb⟩;have a:=zj hb d.o;obtain⟨z,D,B,E,C,F⟩:=yg a (.bool false) (.slice none 0 0);obtain⟨r0,r1,r2⟩:=(yf a (.bool false) (.slice none 0 0) (.slice none 0 0)).c3;have HG:=zd (xu (mo _) a (ze HB.o hb) za);clear hb a HB g d g0 g1;go_wp2;refine bodyPost_ret (v:=.agg #[.bool false,.slice none 0 0,.slice none 0 0]) (by simp [results,results17,go_sem,r0,r1,r2]) rfl ?_;exact HG.o
end
section
variable {A A':zf}{n n' c c' m m' K K' q q':Nat}{MM NN:List (List Rat)}{w:World}
end
