/- What this claim leans on. -/
import Derived.Test.YtipmllfnpldbdaaGreatDoorYJ8Add
import Derived.Test.YtipmllfnpldbdaaGreatDoorYJ8Mul
import Derived.Test.YtipmllfnpldbdaaGreatDoorYJ8Ord
set_option linter.unusedVariables false
set_option linter.unusedSimpArgs false
namespace Go.Proofs.YtipmllfnpldbdaaGreatDoor
open Go Go.RowKit Go.Proofs.Tryz
set_option maxHeartbeats 16000000
set_option maxRecDepth 100000
variable {ad:Addr}{b:Bool}{xs:List Rat}{c f g:Nat}{t:TypeId}{v:Value}{w w':World}{A E:zf}
structure km (w:World)(A:zf)(n c:Nat)(rs:List Rat):Prop where
 len:rs.length=n
 fits:n<=c
 most:c<=9223372036854775807
 num:∀i,i<n->∃(ad:Addr) (b:Bool) (B:zf) (m d:Nat) (E:zf) (u v:Nat),A=some ad/\ad.block<w.heap.size/\w.cell? (ad.add (i*3))=some (.bool b)/\w.cell? (ad.add (i*3+1))=some (.slice B m d)/\w.cell? (ad.add (i*3+2))=some (.slice E u v)/\zu w (rs.getD i 0) b B m d E u v
theorem km.below {n:Nat}{rs:List Rat}(h:km w A n c rs)(hb:Below w.heap.size w w'):km w' A n c rs:=
 ⟨h.len,h.fits,h.most,λi hi=>by
  obtain⟨ad,b,B,m,d,E,u,v,e,h1,h2,h3,h4,h5⟩:=h.num i hi;exact⟨ad,b,B,m,d,E,u,v,e,qJ h1 hb.size,zq hb h2,zq hb h3,zq hb h4,h5.below hb⟩⟩
def uM (rs:List Rat):Rat:=rs.foldl (λa b=>a+b) 0
theorem Um (rs:List Rat)(r:Rat):uM (rs++[r])=uM rs+r:=by unfold uM;rw [List.foldl_append];rfl
theorem Un (rs:List Rat)(k:Nat)(h:k<rs.length):uM (rs.take (k+1))=uM (rs.take k)+rs.getD k 0:=by
 rw [QJ h,Um,qQ,qZ h];rfl
theorem Wp {r:Rat}{n k:Nat}{p:Bool}{q q2:zf}{r1 s r2 s2:Nat}(h:zu w r b A n c E k f)(kd:zi w g t #[.bool p,.slice q r1 s,.slice q2 r2 s2])(x y z:Value):
  zu (((w.setCell ⟨g,0,none⟩ x).setCell ⟨g,1,none⟩ y).setCell ⟨g,2,none⟩ z) r b A n c E k f:=pY h kd (yd.s3 _ _ _ _ _ _ _) (wT _ _ _ _ _)
theorem tm {g':Nat}{cs:Array Value}(h:zi w g t cs)(a:g≠g')(x y z:Value):zi (((w.setCell ⟨g',0,none⟩ x).setCell ⟨g',1,none⟩ y).setCell ⟨g',2,none⟩ z) g t cs:=((h.far (p:=⟨g',0,none⟩) a x).far (p:=⟨g',1,none⟩) a y).far (p:=⟨g',2,none⟩) a z
theorem qc {k:Nat}(h:w.cell? (ad.add (k+1))=some v):w.cell? ⟨(ad.add k).block,(ad.add k).off+1,none⟩=some v:=by
 rw [<-Go.Deep.add_add] at h;exact h
theorem qd {k:Nat}(h:w.cell? (ad.add (k+2))=some v):w.cell? ⟨(ad.add k).block,(ad.add k).off+2,none⟩=some v:=by
 rw [<-Go.Deep.add_add] at h;exact h
theorem pz (rs:List Rat)(A:zf)(n c K:Nat)(w:World)(hT:zv w)(h:km w A n c rs)(hn:n<=1073741824)(hK:K<=67108864)(he:∀i,i<n->zt K (rs.getD i 0))(hs:∀k,k<=n->zt K (uM (rs.take k))):
  Calls prog 55 #[.slice A n c] w (ye w (uM rs)):=by
 have G:=zn w (λw' h=>hT.on h);have HN:=zn w (λw' hb=>h.below hb);have HS:=zd hs;have HE:=zd he;have F:=zd (λk (hk:k<n)=>Un rs k (by rw [h.len];exact hk));have HF:zg (uM (rs.take n)=uM rs):=by
  show _=_;rw [qV (by rw [h.len];exact qX _)]
 clear h hs he hT;go_enter func55,ntmps55;go_wp2_with fail;obtain⟨hB,a,hp,b5⟩:=yb w 60 60 #[.bool false,.slice none 0 0,.slice none 0 0] #[.bool false,.slice none 0 0,.slice none 0 0];generalize hV:(w.alloc (.cells #[.bool false,.slice none 0 0,.slice none 0 0] 60)).alloc (.cells #[.bool false,.slice none 0 0,.slice none 0 0] 60)=V1 at*;clear hV b5;obtain⟨gp,D⟩:∃g,w.heap.size+1=g:=⟨_,rfl⟩;rw [D] at hp⊢;have hgw:w.heap.size<gp:=za
 go_loopg [9] (n+1) (λg ix wr=>∃(k:Nat) (b:Bool) (Ap:zf) (np cp:Nat) (Ep:zf) (kp fp:Nat),k<=n/\n<g+k/\ix=.int .i64 k/\zu wr (uM (rs.take k)) b Ap np cp Ep kp fp/\zi wr gp 60 #[.bool b,.slice Ap np cp,.slice Ep kp fp]/\Below w.heap.size w wr/\zi wr w.heap.size 60 #[.bool false,.slice none 0 0,.slice none 0 0])
 case atStart=>exact⟨0,false,none,0,0,none,0,0,xQ _,za,rfl,il _,hp,hB,a⟩
 case round=>
  clear hp hB a D;obtain⟨k,b,Ap,np,cp,Ep,kp,fp,t,hg,rfl,hw,hp,hB,a⟩:=hrel;by_cases hlt:k<n
  ·obtain⟨ad,b1,B1,m1,d1,E1,u1,v1,rfl,hadb,I,j,m,hx⟩:=(HN.o _ hB).num k hlt;have HM:=zn wr (λw' hb=>gu (uM (rs.take k)) (rs.getD k 0) b Ap np cp Ep kp fp b1 B1 m1 d1 E1 u1 v1 w' (G.o _ (ze hB hb)) (hw.below hb) (hx.below hb) (zt.fit (HS.o k t) hw hK) (zt.fit (HE.o k hlt) hx hK));have j:=qc j;have m:=qd m;have i1:(0:Int)<=(k:Int):=za;have i2:(k:Int)<(n:Int):=za;obtain⟨p0,p1,p2⟩:=hp.c3;obtain⟨st,d2,d3⟩:=zG wr 60 #[.bool b1,.slice B1 m1 d1,.slice E1 u1 v1];obtain⟨q0,q1,q2⟩:=d2.c3;have p3:=zq st p0;have p4:=zq st p1;have p5:=zq st p2;have z:=zd (HM.o _ st);have x:=zd (ze hB st);have B:=zd (zj st hp);have y:=zd (zj st a);clear hw hx hB hp a HM st d2 d3;go_wp2_with fail;refine z.o.mono ?_;rintro e w3 ⟨b3,A3,n3,c3,E3,k3,f3,rfl,u,hb⟩;rw [<-F.o k hlt] at u;have C:=ze x.o hb;have d:=zj hb B.o;have E:=zj hb y.o;obtain⟨N,Q,O,R,P,S⟩:=yj d (.bool b3) (.slice A3 n3 c3);have M:=Wp u d (.bool b3) (.slice A3 n3 c3) (.slice E3 k3 f3);have H:=vY (.bool b3) (.slice A3 n3 c3) (.slice E3 k3 f3) (by show w.heap.size<=gp;omega) C;have L:=yi d (.bool b3) (.slice A3 n3 c3) (.slice E3 k3 f3);have J:=tm E (by show w.heap.size≠gp;omega) (.bool b3) (.slice A3 n3 c3) (.slice E3 k3 f3);clear hb C d E u z x B y I j m p0 p1 p2 p3 p4 p5 q0 q1 q2;go_wp2;go_roundg (n - k)
   case measure=>omega
   case rel=>exact⟨k+1,b3,A3,n3,c3,E3,k3,f3,za,za,by go_num,M,L,H,J⟩
  ·have t:k=n:=za;subst t;rw [HF.o] at hw;obtain⟨p0,p1,p2⟩:=hp.c3;obtain⟨N,Q,O,R,P,S⟩:=yj a (.bool b) (.slice Ap np cp);obtain⟨r0,r1,r2⟩:=(yi a (.bool b) (.slice Ap np cp) (.slice Ep kp fp)).c3;have HG:=zd (xw hw a hB (qX _));clear hw hp a hB;go_wp2;refine bodyPost_ret (v:=.agg #[.bool b,.slice Ap np cp,.slice Ep kp fp]) (by simp [results,results55,go_sem,r0,r1,r2]) rfl ?_;exact HG.o
section
variable {K K':Nat}{x y:Rat}{b b':Bool}{A A':zf}{n n' c c':Nat}{E E':zf}{k k' f f':Nat}{w:World}
theorem ou (hT:zv w)(h:zu w x b A n c E k f)(h':zu w y b' A' n' c' E' k' f')(z:zt K x)(z':zt K' y)(hK:K<=67108864:=by omega)(a:K'<=67108864:=by omega):
  Calls prog 40 #[.agg #[.bool b,.slice A n c,.slice E k f],.agg #[.bool b',.slice A' n' c',.slice E' k' f']] w (ye w (x - y)):=aI x y b A n c E k f b' A' n' c' E' k' f' w hT h h' (z.fit h hK) (z'.fit h' a)
theorem lC (hT:zv w)(h:zu w x b A n c E k f)(h':zu w y b' A' n' c' E' k' f')(z:zt K x)(z':zt K' y)(hK:K<=67108864:=by omega)(a:K'<=67108864:=by omega):
  Calls prog 63 #[.agg #[.bool b,.slice A n c,.slice E k f],.agg #[.bool b',.slice A' n' c',.slice E' k' f']] w (ye w (x*y)):=aF x y b A n c E k f b' A' n' c' E' k' f' w hT h h' (z.fit h hK) (z'.fit h' a)
theorem lB (hT:zv w)(h:zu w x b A n c E k f)(h':zu w y b' A' n' c' E' k' f')(z:zt K x)(z':zt K' y)(hK:K<=67108864:=by omega)(a:K'<=67108864:=by omega):
  Calls prog 25 #[.agg #[.bool b,.slice A n c,.slice E k f],.agg #[.bool b',.slice A' n' c',.slice E' k' f']] w (wF w (wX x y)):=aD x y b A n c E k f b' A' n' c' E' k' f' w hT h h' (z.fit h hK) (z'.fit h' a)
theorem sw {t:Bool}(e:decide (x=y)=t)(hT:zv w)(h:zu w x b A n c E k f)(h':zu w y b' A' n' c' E' k' f')(z:zt K x)(z':zt K' y)(hK:K<=67108864:=by omega)(a:K'<=67108864:=by omega):
  Calls prog 26 #[.agg #[.bool b,.slice A n c,.slice E k f],.agg #[.bool b',.slice A' n' c',.slice E' k' f']] w (λe w'=>e=.returned (.bool t)/\Below w.heap.size w w'):=xc e (bS x y b A n c E k f b' A' n' c' E' k' f' w hT h h' (z.fit h hK) (z'.fit h' a))
theorem ff {t:Bool}(e:decide (x=0)=t)(hT:zv w)(h:zu w x b A n c E k f)(z:zt K x)(hK:K<=67108864:=by omega):
  Calls prog 66 #[.agg #[.bool b,.slice A n c,.slice E k f]] w (λe w'=>e=.returned (.bool t)/\Below w.heap.size w w'):=xc e (vn x b A n c E k f w hT h (z.fit h hK))
theorem fe {v:Int}(e:uq x=v)(hT:zv w)(h:zu w x b A n c E k f)(z:zt K x)(hK:K<=67108864:=by omega):
  Calls prog 61 #[.agg #[.bool b,.slice A n c,.slice E k f]] w (λe w'=>e=.returned (.int .i64 v)/\Below w.heap.size w w'):=ua e (jn x b A n c E k f w hT h (z.fit h hK))
end
theorem o7:∀(args:Array Value) (w':World),Sem.run prog (callFunc 40 args) w'=.ok (.enter 40 args) w':=Go.Proofs.enters_of func40 zm rfl
theorem oZ:∀(args:Array Value) (w':World),Sem.run prog (callFunc 63 args) w'=.ok (.enter 63 args) w':=Go.Proofs.enters_of func63 zm rfl
theorem zF.rats {n:Nat}(h:zF w A n c xs):km w A n c xs:=⟨h.len,h.fits,h.most,λi hi=>h.at_ hi 0⟩
theorem sL (rs:List Rat):uM rs=ui rs:=rfl
theorem kC {K n:Nat}(hT:zv w)(h:zF w A n c xs)(hx:zI K xs)(hn:n<=1073741824)(hK:1+n*(K+1)<=67108864):
  Calls prog 55 #[.slice A n c] w (ye w (ui xs)):=by
 have hl:=h.len;have e:=sL xs;rw [<-e];refine pz xs A n c (1+n*(K+1)) w hT h.rats hn hK (λi hi=>(hx.at_ za).up ?_) (λk hk=>?_)
 ·have:K+1<=n*(K+1):=Nat.le_mul_of_pos_left _ za;omega
 ·rw [sL];exact pN hx hl k hk
theorem iT {x:Rat}{n:Nat}{k:Nat}(h:zi w g t #[.bool b,.slice A n c,.slice E k f])(hx:zu w x b A n c E k f):zF w (some ⟨g,0,none⟩) 1 1 [x]:=
 ⟨rfl,qX _,zh,λi y hi=>by
  have h0:i=0:=by
   have:=(List.getElem?_eq_some_iff.1 hi).1;simpa using this
  subst h0;obtain rfl:x=y:=by simpa using hi
  exact⟨_,b,A,n,c,E,k,f,rfl,h.lt,by rw [xn];exact h.cell 0,by rw [xn];exact h.cell 1,by rw [xn];exact h.cell 2,hx⟩⟩
structure mU (w:World)(A:zf)(n:Nat)(Ls:List (List Rat)):Prop where
 len:Ls.length=n
 num:∀i L,Ls[i]?=some L->∃(ad:Addr) (B:zf) (d:Nat),A=some ad/\ad.block<w.heap.size/\w.cell? (ad.add i)=some (.slice B L.length d)/\zF w B L.length d L
theorem mU.below {n:Nat}{Ls:List (List Rat)}(h:mU w A n Ls)(hb:Below w.heap.size w w'):mU w' A n Ls:=
 ⟨h.len,λi L hi=>by
  obtain⟨ad,B,d,e,h1,h2,h3⟩:=h.num i L hi;exact⟨ad,B,d,e,qJ h1 hb.size,zq hb h2,h3.keep hb⟩⟩
theorem nV {α:Type}{xs:List α}{k:Nat}{d:α}(h:k<xs.length):xs[k]?=some (xs.getD k d):=by
 rw [qQ,qZ h];rfl
section
variable {K L:Nat}{rs:List Rat}{Ls:List (List Rat)}{A B:zf}{n n' c d:Nat}{w:World}
end
def vC (w:World)(z:Int)(b:Bool)(A:zf)(n c:Nat):Prop:=b=decide (z<0)/\rK w z.natAbs A n c
theorem vC.below {z:Int}{n:Nat}(h:vC w z b A n c)(hb:Below w.heap.size w w'):vC w' z b A n c:=⟨h.1,h.2.below hb⟩
def vV (w:World)(r:Rat)(b:Bool)(A:zf)(n c:Nat)(E:zf)(k f:Nat):Prop:=vC w r.num b A n c/\rK w r.den E k f
theorem vV.below {r:Rat}{n:Nat}{k:Nat}(h:vV w r b A n c E k f)(hb:Below w.heap.size w w'):vV w' r b A n c E k f:=⟨h.1.below hb,h.2.below hb⟩
theorem jW {T:World->Prop}{M:Nat->Prop}(a:∀w,T w->zv w)(h0:M 0->og T)(h1:M 1->oh T)(h2:M 2->oj T):oR T M where
 g0:=h0
 g1:=h1
 g2:=h2
 new p q b b' A D n m c d w hT hA hD hn hm h0:=aH p q b A n c b' D m d w (a w hT) hA hD hn hm h0
 newNo p q b b' A D n m c d w hT hA hD hn hm h0:=eN p q b A n c b' D m d w (a w hT) hA hD hn hm h0
 of p q w hT h1 h2 h3 h4 h0:=sy p q w (a w hT) h1 h2 h3 h4 h0
 ofNo p q w hT h1 h2 h0:=VL p q w (a w hT) h1 h2 za za h0
 num r b A n c E k f w hT h hf:=py r b A n c E k f w (a w hT) h hf
 den r b A n c E k f w hT h hf:=gw r b A n c E k f w (a w hT) h hf
 sign r b A n c E k f w hT h hf:=jn r b A n c E k f w (a w hT) h hf
 zero r b A n c E k f w hT h hf:=vn r b A n c E k f w (a w hT) h hf
 isInt r b A n c E k f w hT h hf:=rG r b A n c E k f w (a w hT) h hf
 neg r b A n c E k f w hT h hf:=aG r b A n c E k f w (a w hT) h hf
 inv r b A n c E k f w hT h hf h0:=aE r b A n c E k f w (a w hT) h hf h0
 invNo r b A n c E k f w hT h hf h0:=Wq r b A n c E k f w (a w hT) h hf h0
 add r s b b' A A' n n' c c' E E' k k' f f' w hT h h' hf hf':=gu r s b A n c E k f b' A' n' c' E' k' f' w (a w hT) h h' hf hf'
 sub r s b b' A A' n n' c c' E E' k k' f f' w hT h h' hf hf':=aI r s b A n c E k f b' A' n' c' E' k' f' w (a w hT) h h' hf hf'
 cmp r s b b' A A' n n' c c' E E' k k' f f' w hT h h' hf hf':=aD r s b A n c E k f b' A' n' c' E' k' f' w (a w hT) h h' hf hf'
 same r s b b' A A' n n' c c' E E' k k' f f' w hT h h' hf hf':=bS r s b A n c E k f b' A' n' c' E' k' f' w (a w hT) h h' hf hf'
