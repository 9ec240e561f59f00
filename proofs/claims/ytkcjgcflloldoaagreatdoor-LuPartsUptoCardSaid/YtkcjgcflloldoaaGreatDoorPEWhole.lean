/- What this claim leans on. -/
import Derived.Test.YtkcjgcflloldoaaGreatDoorPMRow
set_option linter.unusedVariables false
set_option linter.unusedSimpArgs false
namespace Go.Proofs.YtkcjgcflloldoaaGreatDoor
open Go Go.RowKit Go.Proofs.Tryz
set_option maxHeartbeats 16000000
variable {cs:Array Value}{Ls:List (List Rat)}{ld:List Nat}{vs:List Value}{K a c g k m n:Nat}{x y:Rat}{t:TypeId}{v x0 x1 x2:Value}{w w':World}{A:ze}
def oT (l:Rat)(row:List Rat):Rat:=row.foldl (λl x=>l*(((l*x).den:Nat):Rat)) l
def zM (row:List Rat):Rat:=oT 1 row
def uP (x:Rat):Prop:=∃z:Int,x=(z:Rat)
theorem uP.mul (h:uP x)(k:uP y):uP (x*y):=by
 obtain⟨z,rfl⟩:=h;obtain⟨t,rfl⟩:=k;exact⟨z*t,(yC z t).symm⟩
theorem uP.nat (n:Nat):uP (n:Rat):=⟨n,(YP n).symm⟩
theorem jL (x:Rat):((x.den:Nat):Rat)≠0:=λh=>x.den_nz (by
 have:((x.den:Nat):Rat)=((0:Nat):Rat):=h;exact Rat.natCast_inj.1 this)
theorem mb (x:Rat):uP (((x.den:Nat):Rat)*x):=⟨x.num,by rw [YW];exact dQ x⟩
theorem dP (l x:Rat)(row:List Rat):oT l (x::row)=oT (l*(((l*x).den:Nat):Rat)) row:=rfl
theorem Zg:∀{row:List Rat} {l:Rat},l≠0->oT l row≠0
 |[],_,h=>h
 |x::row,l,h=>by
   rw [dP];refine Zg λe=>?_;rcases Rat.mul_eq_zero.1 e with e|e
   ·exact h e
   ·exact jL _ e
theorem Zh:∀{row:List Rat} {l:Rat},∃q:Rat,uP q/\oT l row=q*l
 |[],l=>⟨1,⟨1,by decide+kernel⟩,(XD l).symm⟩
 |x::row,l=>by
   obtain⟨q,hq,e⟩:=Zh (row:=row) (l:=l*(((l*x).den:Nat):Rat));exact⟨q*(((l*x).den:Nat):Rat),hq.mul (uP.nat _),by rw [dP,e];grind⟩
theorem UN:∀{row:List Rat} {l:Rat},∀x ∈ row,uP (oT l row*x)
 |x::row,l,y,h=>by
   rcases List.mem_cons.1 h with rfl|h
   ·obtain⟨q,hq,e⟩:=Zh (row:=row) (l:=l*(((l*y).den:Nat):Rat));rw [dP,e];have:=hq.mul (mb (l*y));rw [show q*(l*(((l*y).den:Nat):Rat))*y=q*((((l*y).den:Nat):Rat)*(l*y)) by grind];exact this
   ·rw [dP];exact UN y h
theorem ma {q z:Int}{r:Rat}(h:(q:Rat)*r=(z:Rat)):(r.den:Int)∣ q:=by
 have h1:(q:Rat)*(r*((r.den:Nat):Rat))=(z:Rat)*((r.den:Nat):Rat):=by rw [<-h];grind
 rw [dQ,<-yC,<-YP,<-yC] at h1;have h2:q*r.num=z*(r.den:Int):=Rat.intCast_inj.1 h1;have h3:r.den ∣ q.natAbs*r.num.natAbs:=by
  rw [<-xN,h2,xN];exact⟨z.natAbs,by rw [qB];rfl⟩
 have h4:r.den ∣ q.natAbs:=Nat.Coprime.dvd_of_dvd_mul_right r.reduced.symm h3;exact Int.ofNat_dvd_left.2 h4
theorem LI.int (h:LI K x):uP x:=by obtain⟨z,e,_⟩:=h;exact⟨z,e⟩
theorem LI.of_mul {q:Rat}(h:LI K y)(hq:uP q)(hx:uP x)(e:y=q*x)(h0:q≠0):LI K x:=by
 obtain⟨z,rfl⟩:=hq;obtain⟨t,rfl⟩:=hx;obtain⟨v,rfl,hv⟩:=h;refine⟨t,rfl,hv.of_le ?_⟩;rw [<-yC] at e;rw [Rat.intCast_inj.1 e,xN];have:z≠0:=λhz=>h0 (by rw [hz];rfl);exact Nat.le_mul_of_pos_left _ (Int.natAbs_pos.2 this)
theorem N9 {row:List Rat}{l:Rat}(h:uP l):uP (oT l row):=by
 obtain⟨q,hq,e⟩:=Zh (row:=row) (l:=l);rw [e];exact hq.mul h
theorem ll:uP 1:=⟨1,by decide+kernel⟩
theorem UO (row:List Rat):zM row≠0:=Zg (by decide+kernel)
theorem TS:∀{row:List Rat} {l:Rat} {K L:Nat},LI L l->(∀x ∈ row,zm K x)->LI (L+row.length*K) (oT l row)
 |[],l,K,L,hl,_=>by rw [YN,Nat.zero_mul];exact hl
 |x::row,l,K,L,hl,h=>by
   rw [dP];have h1:LI K (((l*x).den:Nat):Rat):=by
    obtain⟨z,hz,_⟩:=hl;have hd:(l*x).den ∣ x.den:=by
     have:((x.den:Int):Rat)*(l*x)=((z*x.num:Int):Rat):=by
      rw [yC,<-hz,<-dQ x,YP];grind
     exact Int.natCast_dvd_natCast.1 (ma this)
    exact⟨((l*x).den:Int),(YP _).symm,((h x XK).den).of_le (Nat.le_of_dvd (xT x.den_nz) hd)⟩
   refine(TS (K:=K) (hl.mul h1) λy hy=>h y (XW _ hy)).up ?_;rw [xO,Nat.succ_mul];omega
theorem ij {l:Rat}{L:Nat}(hl:LI L l)(hx:zm K x)(hi:uP (l*x)):LI (L+K) (l*x):=by
 obtain⟨z,hz,a⟩:=hl;obtain⟨t,ht⟩:=hi;refine⟨t,ht,?_⟩
 -- t*den=z*num
 have h1:t*(x.den:Int)=z*x.num:=by
  have:(t:Rat)*((x.den:Nat):Rat)=(z:Rat)*(x.num:Rat):=by
   rw [<-ht,hz,<-dQ x];grind
  rw [<-YP,<-yC,<-yC] at this;exact Rat.intCast_inj.1 this
 have h2:t.natAbs*x.den=z.natAbs*x.num.natAbs:=by
  rw [<-xN,<-h1,xN];rfl
 refine(a.mul hx.num).of_le ?_;rw [<-h2];exact Nat.le_mul_of_pos_right _ (xT x.den_nz)
theorem fa {row:List Rat}(hn:row.length<=n)(h:∀x ∈ row,zm K x):LI (1+(n+1)*K) (zM row)/\∀x ∈ row,LI (1+(n+1)*K) (zM row*x):=by
 have h1:=TS (K:=K) LI.one h;have hm:row.length*K<=n*K:=qE _ hn;have hs:(n+1)*K=n*K+K:=Nat.succ_mul n K;exact⟨h1.up za,λx hx=>(ij h1 (h x hx) (UN x hx)).up za⟩
theorem P9 {row:List Rat}(h:LI K (zM row)):LI K (zM (row.take k)):=by
 obtain⟨q,hq,e⟩:=Zh (row:=row.drop k) (l:=zM (row.take k));have e2:oT (zM (row.take k)) (row.drop k)=zM row:=by
  unfold zM oT;rw [<-YJ,YC]
 rw [e2] at e;exact h.of_mul hq (N9 ll) e λhz=>UO row (by rw [e,hz,yX])
theorem P8 {row:List Rat}(h:k<row.length):zM (row.take (k+1))=zM (row.take k)*(((zM (row.take k)*row.getD k 0).den:Nat):Rat):=by
 unfold zM oT;rw [qC h,YJ,qQ,qY h];rfl
theorem mY (h:x.den≠1):(x.num:Rat) / x=((x.den:Nat):Rat):=by
 have hx:x≠0:=λe=>h (by rw [e];rfl);have:=dQ x;rw [<-this]
 grind
section
variable {P:Program}{ops:Array Oper}{Q:Exit->Act->World->Prop}{S:World->Prop}{fuel:Nat}{l:Array Bool}{a:Act}{w:World}
theorem pZ (i j:Nat){o p:Oper}(hk:∀K':Act->World->Prop,Shut (∀(a:Act) (w:World),S w->(S w->wpAnyH P .any ops (NoPanic Q) S fuel (l.setIfInBounds i true) a w)->K' a w)->Oper.wp P o a w K' (NoPanic Q))(hj:∀K':Act->World->Prop,Shut (∀(a:Act) (w:World),S w->(S w->wpAnyH P .any ops (NoPanic Q) S fuel (l.setIfInBounds j true) a w)->K' a w)->Oper.wp P p a w K' (NoPanic Q))(h1:ops[i]?=some o:=by simp only [QD,qA,qN];rfl)(c:ops[j]?=some p:=by simp only [QD,qA,qN];rfl)(h2:Region.ready .any ops l=[i,j]:=by kernel_rfl)(h3:Region.wanted o (yielded ops a.tmps)=true:=by rfl)(d:Region.wanted p (yielded ops a.tmps)=true:=by rfl):wpAnyH P .any ops (NoPanic Q) S (fuel+1) l a w:=
 wpAnyH_ready h2 zG (AllReadyH.cons h1 (λK' hK=>by rw [if_pos h3];exact hk K' hK) (AllReadyH.cons c (λK' hK=>by rw [if_pos d];exact hj K' hK) AllReadyH.nil))
theorem ZT (i j:Nat){o p:Oper}{u v:Value}{a1 a2 a':Act}(hn:wpAnyH P .any ops (NoPanic Q) S fuel ((l.setIfInBounds i true).setIfInBounds j true) a' w)(h1:ops[i]?=some o:=by simp only [QD,qA,qN];rfl)(c:ops[j]?=some p:=by simp only [QD,qA,qN];rfl)(ri:Sem.run P (execOp a.eval o) w=Result.ok (Next.value u) w:=by(go_simp;(try with_reducible rfl)))(rj:Sem.run P (execOp a.eval p) w=Result.ok (Next.value v) w:=by(go_simp;(try with_reducible rfl)))(e1:a.put o.dst u=a1:=by(simp only [zI];try rfl))(e2:a.put p.dst v=a2:=by(simp only [zI];try rfl))(m:Sem.run P (execOp a2.eval o) w=Result.ok (Next.value u) w:=by(go_simp;(try with_reducible rfl)))(n:Sem.run P (execOp a1.eval p) w=Result.ok (Next.value v) w:=by(go_simp;(try with_reducible rfl)))(f1:a1.put p.dst v=a':=by(simp only [zI];try rfl))(f2:a2.put o.dst u=a':=by(simp only [zI];try rfl))(h2:Region.ready .any ops l=[i,j]:=by kernel_rfl)(g:Region.ready .any ops (l.setIfInBounds i true)=[j]:=by kernel_rfl)(k:Region.ready .any ops (l.setIfInBounds j true)=[i]:=by kernel_rfl)(hl:(l.setIfInBounds j true).setIfInBounds i true=(l.setIfInBounds i true).setIfInBounds j true:=by kernel_rfl)(h3:o.guard=none:=by rfl)(d:p.guard=none:=by rfl)(hS:S w:=by with_reducible assumption):wpAnyH P .any ops (NoPanic Q) S (fuel+1+1) l a w:=by
 have w1:∀b:Act,Region.wanted o (yielded ops b.tmps)=true:=λb=>by unfold Region.wanted;rw [h3]
 have w2:∀b:Act,Region.wanted p (yielded ops b.tmps)=true:=λb=>by unfold Region.wanted;rw [d]
 refine pZ i j (λK hK=>?_) (λK hK=>?_) h1 c h2 (w1 a) (w2 a)
 ·refine fj ri (hK.out _ _ hS λ_=>?_);rw [e1];refine rc j (λK hK=>fj n (hK.out _ _ hS λ_=>?_)) c g (w2 a1);rw [f1];exact hn
 ·refine fj rj (hK.out _ _ hS λ_=>?_);rw [e2];refine rc i (λK hK=>fj m (hK.out _ _ hS λ_=>?_)) h1 k (w1 a2);rw [f2,hl];exact hn
end
set_option maxRecDepth 100000
theorem TN (n m:Nat)(f:Nat->Nat->Rat):(wF n m f).length=n:=by simp [wF]
theorem TM (f:Nat->Nat->Rat){r:Nat}(h:r<n):(wF n m f)[r]?=some ((List.range m).map (f r)):=by
 unfold wF;rw [qW,xD h];rfl
theorem Uf (m:Nat)(f:Nat->Rat):((List.range m).map f).length=m:=zG
theorem Ue (f:Nat->Rat){c:Nat}(h:c<m):((List.range m).map f)[c]?=some (f c):=by
 rw [qW,xD h];rfl
theorem RE {M:List (List Rat)}(h:wK (zZ zp) w 58 g n M)(hd:zQ M n m)(hn:n<=64)(hm:m<=64):wG w (some ⟨g,0,none⟩) n n m M:=⟨hd,qX _,za,hn,hm,h.rows,λad e=>by obtain⟨cs,hk,_⟩:=h.blk;injection e with e;subst e;exact⟨cs,hk⟩⟩
def kk (f:Nat->Nat->Rat)(F:FuncId)(cap:Array Value)(n m:Nat)(w:World):Prop:=
 (∀ (args : Array Value) (w' : World),Sem.run prog (callFunc F args) w' = .ok (.enter F args) w') ∧
   ∀r c,r<n->c<m->∀w',Below w.heap.size w w'->Calls prog F (#[.int .i64 (r:Int),.int .i64 (c:Int)]++cap) w' (yp w' (f r c))
theorem TY {K:Nat}(f:Nat->Nat->Rat)(F:FuncId)(an:Array Value)(n m:Nat)(w:World)(hT:zu w)(hG:kk f F an n m w)(hS:∀r c,r<n->c<m->zm K (f r c))(hn:n<=64:=by omega)(hm:m<=64:=by omega)(hK:K+2<=67108864:=by omega):
  Calls prog 70 #[.int .i64 (n:Int),.int .i64 (m:Int),.func (.func F) #[] an] w (sW w n m (wF n m f)):=by
 obtain⟨hEn,hF⟩:=hG;have HF:=zb hF;have HT:=zj w (λw' hb=>hT.on hb);have Q:=zb (TN n m f);have P:zd (∀r,r<n->(wF n m f)[r]?=some ((List.range m).map (f r))):=λr hr=>TM f hr;have ae:zd (∀r c,c<m->((List.range m).map (f r))[c]?=some (f r c)):=λr c hc=>Ue (f r) hc;have ai:zd (∀r,((List.range m).map (f r)).length=m):=λr=>Uf m (f r);have am:zd (∀r,r<n->zN K ((List.range m).map (f r))):=λr hr x hx=>by
  obtain⟨c,hc,rfl⟩:=List.mem_map.1 hx;exact hS r c hr (List.mem_range.1 hc)
 have ac:=zb (gZ n m f);obtain⟨G,N⟩:∃G:Nat->List Rat,(λr=>(List.range m).map (f r))=G:=⟨_,rfl⟩;have E:∀r,(List.range m).map (f r)=G r:=λr=>by rw [<-N]
 simp only [E] at P ae ai am;obtain⟨M,hM⟩:∃M,wF n m f=M:=⟨_,rfl⟩;rw [hM] at Q P ac⊢;obtain⟨Z,hZ⟩:=jo m za;have HMK:∀W,(Instr.makeSlice 58 (.int .i64 (m:Int)) (.int .i64 (m:Int))).run prog W=.ok (.slice (some ⟨W.heap.size,0,none⟩) m m) (W.alloc (.cells Z 54)):=λW=>(hZ W).1;have ak:=zb (λW=>(hZ W).2);obtain⟨Y,hY⟩:=U3 n za;have aj:∀W,(Instr.makeSlice 26 (.int .i64 (n:Int)) (.int .i64 (n:Int))).run prog W=.ok (.slice (some ⟨W.heap.size,0,none⟩) n n) (W.alloc (.cells Y 58)):=λW=>(hY W).1;have B:=zb (λW=>(hY W).2);obtain⟨b1,b2,b3,b4,b5⟩:=yF w 28 58 28 #[.slice none 0 0,.int .i64 0] Y #[.slice (some ⟨w.heap.size+1,0,none⟩) n n,.int .i64 (m:Int)];clear hT hF hS N E hM hZ hY;unfold sW;have i0:(0:Int)<=(n:Int):=za;have i1:(0:Int)<=(m:Int):=za;go_enter func70,ntmps70;go_wp2_with fail;have a:wK (zZ zp) (((w.alloc (.cells #[.slice none 0 0,.int .i64 0] 28)).alloc (.cells Y 58)).alloc (.cells #[.slice (some ⟨w.heap.size+1,0,none⟩) n n,.int .i64 (m:Int)] 28)) 58 (w.heap.size+1) n (uJ [] M n 0):=by
  have h1:=B.o (w.alloc (.cells #[.slice none 0 0,.int .i64 0] 28));have e1:(w.alloc (.cells #[.slice none 0 0,.int .i64 0] 28)).heap.size=w.heap.size+1:=zG;rw [e1] at h1;rw [lZ];exact h1.below (yk yt) (zw _ _ _).1
 clear b3 B aj;obtain⟨g0,S⟩:∃g,w.heap.size=g:=⟨_,rfl⟩;have a3:w.heap.size<=g0:=za;rw [S] at a b1 b2 b4 b5⊢;generalize ((w.alloc (.cells #[.slice none 0 0,.int .i64 0] 28)).alloc (.cells Y 58)).alloc (.cells #[.slice (some ⟨g0+1,0,none⟩) n n,.int .i64 (m:Int)] 28)=W1 at*;rw [<-S] at b1;clear S
 go_loopg [18] (n+1) (λg ix wr=>∃(k:Nat),k<=n/\n<g+k/\ix=.int .i64 k/\wK (zZ zp) wr 58 (g0+1) n (uJ [] M n k)/\Below w.heap.size w wr/\zh wr g0 28 #[.slice none 0 0,.int .i64 0]/\zh wr (g0+1+1) 28 #[.slice (some ⟨g0+1,0,none⟩) n n,.int .i64 (m:Int)])
 case atStart=>exact⟨0,QQ _,za,rfl,a,b1,b2,b4⟩
 case round=>
  clear a b1 b2 b4 b5;obtain⟨k,hkn,hg,rfl,a,hB,z,H⟩:=hrel;obtain⟨wo,a4⟩:∃wo,wo=wr:=⟨_,rfl⟩;subst a4;by_cases hlt:k<n
  ·have a1:decide ((k:Int)<(n:Int))=true:=decide_eq_true za;have i2:(0:Int)<=(k:Int):=za;have i3:(k:Int)<(n:Int):=za;have hg1:=a.lt;have al:=zb a;have HB:=zb hB;have ax:=zb z;have ay:=zb H;have J:=zb (ae.o k);have u:=zb (ai.o k);have L:=zb (am.o k hlt);have I:=zb (P.o k hlt);obtain⟨R,hR⟩:∃R,G k=R:=⟨_,rfl⟩;rw [hR] at J u L I;clear a hB z H hR;go_wp2_with fail;have o:=ak.o wo;have d:Below wo.heap.size wo (wo.alloc (.cells Z 54)):=(qZ _ wo).alloc (qX _) _;rw [<-lZ 0 R m] at o;obtain⟨gr,ao⟩:∃g,wo.heap.size=g:=⟨_,rfl⟩;have a5:wo.heap.size<=gr:=za;rw [ao] at o⊢;generalize wo.alloc (.cells Z 54)=W2 at*;clear ao
   go_loopg [25] (m+1) (λg jx wr=>∃(j:Nat),j<=m/\m<g+j/\jx=.int .i64 j/\yn wr gr m (uJ 0 R m j)/\Below wo.heap.size wo wr)
   case atStart=>exact⟨0,QQ _,za,rfl,o,d⟩
   case round=>
    clear o d;obtain⟨j,hjm,hg2,rfl,o,d⟩:=hrel;by_cases hjl:j<m
    ·have a2:decide ((j:Int)<(m:Int))=true:=decide_eq_true za;have i4:(0:Int)<=(j:Int):=za;have i5:(j:Int)<(m:Int):=za;have af:=zb o;have O:=zb d;have aw:=zb (J.o j hjl);clear o d;go_wp2_with fail;refine(HF.o k j hlt hjl _ (zc HB.o O.o)).mono ?_;rintro e w3 ⟨b3,A3,n3,c3,E3,k3,f3,rfl,aq,hb⟩;have T:=af.o.keep hb;have U:=wH.set_ yt T hjl aq;rw [kf 0 R m j u.o hjl _ aw.o] at U;obtain⟨q0,q1,q2,aa,ab,a6,a7,sc2,sf2⟩:=T.ready hjl (.bool b3) (.slice A3 n3 c3);have az:=zb U;have au:=zb (dI (j*3) (j*3+1) (j*3+2) (.bool b3) (.slice A3 n3 c3) (.slice E3 k3 f3) a5 (zc O.o hb));clear T U hb aq af O;go_wp2;go_roundg (m - j)
     case measure=>omega
     case rel=>exact⟨j+1,za,za,by go_num,az.o,au.o⟩
    ·have hj:j=m:=za;subst hj;have a2:decide ((j:Int)<(j:Int))=false:=zG;have HV:=zb (wE (ke 0 R j u.o▸o));have ar:=zg d ay.o;have i:=zb (al.o.below (yk yt) d);have A:=zb (zc HB.o d);have s:=zb (zg d ax.o);have t:=zb ar;obtain⟨p0,p1⟩:=ar.c2;have y:=(qZ wr.heap.size wr).drew;clear o d;go_wp2_with fail;refine rg (zk p0 zO) (λhHeld=>?_);clear p0 p1;have HV:=zb (HV.o.keep y);have i:=zb (i.o.below (yk yt) y);have A:=zb (zc A.o y);have s:=zb (zg y s.o);have t:=zb (zg y t.o);clear y;generalize wr.drew=D at*;refine tk 0 ?_;refine tk 1 ?_;refine tk 2 ?_;refine tk 3 ?_;refine rc 4 (λKK C=>?_);go_simp;(with_reducible refine(TR (HT.o _ A.o) HV.o L.o).mono ?_);rintro e w5 ⟨g5,rfl,hg5,ap,hb⟩;refine C.out _ _ (Cs.below hHeld hb) (λhHeld=>?_);clear C KK;have V:=i.o.below (yk yt) hb;have X:=wK.set_ (yk yt) V hlt (wE ap) u.o;rw [kf [] M n k Q.o hlt _ I.o] at X;obtain⟨q0,aa,ab⟩:=V.ready hlt;have hne:g0+1+1≠g0+1:=za;have a0:=zb X;have av:=zb (zB (p:=⟨g0+1,k,none⟩) (.slice (some ⟨g5,0,none⟩) j j) (show w.heap.size<=g0+1 by omega) (zc A.o hb));have ag:=zb (zh.far (p:=⟨g0+1,k,none⟩) (zg hb s.o) (by show g0≠g0+1;omega) (.slice (some ⟨g5,0,none⟩) j j));have ah:=zb (zh.far (p:=⟨g0+1,k,none⟩) (zg hb t.o) (by show g0+1+1≠g0+1;omega) (.slice (some ⟨g5,0,none⟩) j j));clear hb V X ap i A s t HV;refine tk 5 ?_;refine rc 6 (λKK C=>?_);go_simp;refine C.out _ _ ?_ (λhHeld=>?_)
     ·refine Cs.far hHeld ((xg.refl (g0+1) _).set_ k _) ⟨?_,trivial⟩;show g0+1+1≠g0+1;omega
     clear C KK;refine z4 ?_;clear hHeld aa ab;go_wp2;go_roundg (n - k)
     case measure=>omega
     case rel=>exact⟨k+1,za,za,by go_num,a0.o,av.o,ag.o,ah.o⟩
  ·have hk:k=n:=za;subst hk;have a1:decide ((k:Int)<(k:Int))=false:=zG;have HM:=zb (RE (ke [] M k Q.o▸a) ac.o hn hm);obtain⟨p0,p1⟩:=H.c2;obtain⟨aa,ab,a6,a7⟩:=vh z (.slice (some ⟨g0+1,0,none⟩) k k);obtain⟨r0,r1⟩:=(vg z (.slice (some ⟨g0+1,0,none⟩) k k) (.int .i64 (m:Int))).c2;have HG:=zb (fT HM.o (λad e=>by injection e with e;subst e;show g0<g0+1;omega) z hB a3);unfold sW at HG;clear a hB z H;go_wp2;refine bodyPost_ret (v:=.agg #[.slice (some ⟨g0+1,0,none⟩) k k,.int .i64 (m:Int)]) (by simp [results,results70,go_sem,r0,r1]) rfl ?_;exact HG.o
structure cO (w:World)(base g n cap:Nat)(Ls:List (List Rat)):Prop where
 ge:base<=g
 len:Ls.length=n
 fits:n<=cap
 most:cap<=9223372036854775807
 blk:∃cs:Array Value,zh w g 58 cs/\(∀u ∈ cs.toList,xc u)/\cs.size=cap
 num:∀i L,Ls[i]?=some L->∃(B:ze) (d:Nat),w.cell? ⟨g,i,none⟩=some (.slice B L.length d)/\z7 w B L.length d L
theorem cO.below (h:cO w a g n c Ls)(hb:Below w.heap.size w w'):cO w' a g n c Ls:=by
 refine⟨h.ge,h.len,h.fits,h.most,?_,λi L hi=>?_⟩
 ·obtain⟨cs,hk,h1,h2⟩:=h.blk;exact⟨cs,zg hb hk,h1,h2⟩
 ·obtain⟨B,d,h1,h2⟩:=h.num i L hi;exact⟨B,d,zq hb h1,z7.keep h2 hb⟩
theorem cO.rows (h:cO w a g n c Ls):xi (zZ zp) w (some ⟨g,0,none⟩) n Ls:=
 ⟨h.len,λi L hi=>by
  obtain⟨cs,hk,_⟩:=h.blk;obtain⟨B,d,h1,h2⟩:=h.num i L hi;exact⟨_,B,d,rfl,hk.lt,by rw [wu];exact h1,h2⟩⟩
theorem LI.szq (h:LI K x)(hK:0<K):zm K x:=by
 obtain⟨z,rfl,hz⟩:=h;exact zm.whole hz hK
theorem pS {L:Nat}(hz:zm K x):zm K ((x.den:Nat):Rat):=by
 by_cases hK:K=0
 ·subst hK;exact absurd hz.den (by have:=x.den_nz;unfold Sz;rw [XM];omega)
 ·rw [<-YP];exact zm.whole hz.den za
theorem pT (hz:zm K x):zm K (x.num:Rat):=by
 by_cases hK:K=0
 ·subst hK;exact absurd hz.den (by have:=x.den_nz;unfold Sz;rw [XM];omega)
 ·exact zm.whole hz.num za
theorem lp (h:¬x.den=1):x≠0:=λe=>h (by rw [e];rfl)
theorem zh.far3 {q:Nat}(h:zh w g t cs)(a:g≠q)(x y z:Value):zh (((w.setCell ⟨q,0,none⟩ x).setCell ⟨q,1,none⟩ y).setCell ⟨q,2,none⟩ z) g t cs:=zh.far (p:=⟨q,2,none⟩) (zh.far (p:=⟨q,1,none⟩) (zh.far (p:=⟨q,0,none⟩) h a x) a y) a z
theorem Y9:((1:Int):Rat)=1:=by decide+kernel
theorem Mb:zM []=1:=rfl
theorem Te {K0:Nat}{xs:List Rat}(hT:zu w)(ha:z7 w A n c xs)(hx:zN K0 xs)(hK:LI K (zM xs))(hn:n<=1073741824:=by omega)(h9:K+K0<=33554432:=by omega)(ai:0<K:=by omega):
  Calls prog 84 #[.slice A n c] w (yp w (zM xs)):=by
 have hl:=ha.len;have ab:zd (∀i,i<n->zm K0 (xs.getD i 0)):=λi hi=>hx.at_ za;have S:zd (∀k,zm K (zM (xs.take k))):=λk=>(P9 hK).szq ai;have ae:zd (∀k,k<n->zM (xs.take (k+1))=zM (xs.take k)*(((zM (xs.take k)*xs.getD k 0).den:Nat):Rat)):=λk hk=>P8 za;have ac:zd (zM (xs.take n)=zM xs):=by rw [qV za];exact rfl
 have HA:=zb ha;have HT:=zj w (λw' hb=>hT.on hb);obtain⟨a,y,bz⟩:=zw w 54 #[.bool false,.slice none 0 0,.slice none 0 0];have HB:=zb a;have j:=zb y;have i0:(0:Int)<=(n:Int):=za;unfold yp;clear hT ha hx hK hl a y bz;go_enter func84,ntmps84;go_wp2_with fail;generalize w.alloc (.cells #[.bool false,.slice none 0 0,.slice none 0 0] 54)=W1 at*;(with_reducible refine(fz 1 _ (HT.o _ HB.o) zf zf).mono ?_);rintro e w1 ⟨b1,A1,n1,c1,E1,k1,f1,rfl,F,hb⟩;rw [Y9,<-Mb] at F;have hB:=zc HB.o hb;have o:=zg hb j.o;obtain⟨a,y,bz⟩:=zw w1 54 #[.bool b1,.slice A1 n1 c1,.slice E1 k1 f1];have hB:=zc hB a;have o:=zg a o;have F:=F.below a;have hlt3:w.heap.size<w1.heap.size:=(zg hb j.o).lt;clear hb a HB j bz;go_wp2_with fail;generalize w1.alloc (.cells #[.bool b1,.slice A1 n1 c1,.slice E1 k1 f1] 54)=W2 at*;generalize w1.heap.size=g3 at*
 go_loopg [12] (n+1) (λg ix wr=>∃(k:Nat) (b:Bool) (B:ze) (m d:Nat) (E:ze) (u v:Nat),k<=n/\n<g+k/\ix=.int .i64 k/\zh wr g3 54 #[.bool b,.slice B m d,.slice E u v]/\zp wr (zM (xs.take k)) b B m d E u v/\zh wr w.heap.size 54 #[.bool false,.slice none 0 0,.slice none 0 0]/\Below w.heap.size w wr)
 case atStart=>exact⟨0,b1,A1,n1,c1,E1,k1,f1,QQ _,za,rfl,y,F,o,hB⟩
 case round=>
  clear F o hB y;obtain⟨k,b,B,m,d,E,u,v,hkn,hg,rfl,z,G,o,hB⟩:=hrel;by_cases hlt:k<n
  ·obtain⟨ad,b1,B1,m1,d1,E1,u1,v1,rfl,-,aj,ak,al,V⟩:=HA.o.get hB hlt;have am:decide ((k:Int)<(n:Int))=true:=decide_eq_true za;have i1:(0:Int)<=(k:Int):=za;have i2:(k:Int)<(n:Int):=za;have H:=zb (S.o k);have R:=zb (S.o (k+1));have T:=zb (ab.o k hlt);have I:=zb (ae.o k hlt);obtain⟨l1,J⟩:∃q,zM (xs.take (k+1))=q:=⟨_,rfl⟩;rw [J] at R I;have P:=zb J;clear J;generalize zM (xs.take k)=l at*;generalize xs.getD k 0=x at*;obtain⟨a,y,bz⟩:=zw wr 54 #[.bool b1,.slice B1 m1 d1,.slice E1 u1 v1];obtain⟨p0,p1,p2⟩:=y.c3;obtain⟨g0,g1,g2⟩:=(zg a z).c3;have HX:=zb (V.below a);have t:=zb (G.below a);have s:=zb (zg a z);have j:=zb (zg a o);have HB:=zb (zc hB a);have ht2:=o.lt;have ht3:=z.lt;clear V G z o hB a y bz;go_wp2_with fail;generalize wr.alloc (.cells #[.bool b1,.slice B1 m1 d1,.slice E1 u1 v1] 54)=W4 at*;(with_reducible refine(sG (HT.o _ HB.o) t.o HX.o H.o T.o).mono ?_);rintro e w3 ⟨b3,A3,n3,c3,E3,k3,f3,rfl,U,hb⟩;clear aj ak al p0 p1 p2 g0 g1 g2;have HZ:zd (zm (K+K0) (l*x)):=H.o.mul T.o;have t:=zb (t.o.below hb);have s:=zb (zg hb s.o);have j:=zb (zg hb j.o);have HB:=zb (zc HB.o hb);obtain⟨a,y,bz⟩:=zw w3 54 #[.bool b3,.slice A3 n3 c3,.slice E3 k3 f3];obtain⟨p0,p1,p2⟩:=y.c3;have HP:=zb (U.below a);have D:=zb y;have t:=zb (t.o.below a);have s:=zb (zg a s.o);have j:=zb (zg a j.o);have HB:=zb (zc HB.o a);clear U hb a y bz HX;go_wp2_with fail;generalize w3.alloc (.cells #[.bool b3,.slice A3 n3 c3,.slice E3 k3 f3] 54)=W5 at*;generalize w3.heap.size=q6 at*;have C:=zb (oS (l*x) b3 A3 n3 c3 E3 k3 f3 W5 (HT.o _ HB.o) HP.o (HZ.o.fit HP.o za));by_cases hd:(l*x).den=1
   ·have e1:l1=l:=by rw [I.o,hd];exact Rat.mul_one l
    have C:=C.o;rw [decide_eq_true hd] at C;refine C.mono ?_;rintro e w4 ⟨rfl,hb⟩;have t:=zb (t.o.below hb);have s:=zb (zg hb s.o);have j:=zb (zg hb j.o);have HB:=zb (zc HB.o hb);clear hb HP D p0 p1 p2 C hd;go_wp2;go_roundg (n - k)
    case measure=>omega
    case rel=>exact⟨k+1,b,B,m,d,E,u,v,za,za,by go_num,s.o,by rw [P.o,e1];exact t.o,j.o,HB.o⟩
   ·have e1:l1=l*(((l*x).den:Nat):Rat):=I.o;have Z:=zb (mY hd);have aa:=zb (lp hd);have C:=C.o;rw [decide_eq_false hd] at C;refine C.mono ?_;rintro e w4 ⟨rfl,hb⟩;have t:=zb (t.o.below hb);have s:=zb (zg hb s.o);have j:=zb (zg hb j.o);have D:=zb (zg hb D.o);have HP:=zb (HP.o.below hb);have HB:=zb (zc HB.o hb);have ah:zd (zm (K+K0) (((l*x).num:Int):Rat)):=pT HZ.o;have ag:zd (zm (K+K0) (((l*x).den:Nat):Rat)):=pS (L:=0) HZ.o;clear hb p0 p1 p2 C hd;go_upto_region 7 with fail;have GG:=zj w4 (λw' h=>(zk (zg h D.o).c3.1 (zk (zg h D.o).c3.2.1 (zk (zg h D.o).c3.2.2 zO))));refine tC (λhHeld=>?_);refine tl 0 GG.o ?_;refine tl 3 GG.o ?_;refine sO w4 uT [.old 23 (.agg #[.bool b3,.slice A3 n3 c3,.slice E3 k3 f3]),.val 24 (FI (l*x).num),.val 25 (FQ (((l*x).num:Int):Rat)),.old 26 (.agg #[.bool b3,.slice A3 n3 c3,.slice E3 k3 f3]),.val 27 (wU (((l*x).den:Nat):Rat) true),.val 22 (wU (((l*x).den:Nat):Rat) true),.val 28 (FQ (((l*x).den:Nat):Rat)),.val 29 (FV (.bool true)),.box 7 54 #[.bool false,.slice none 0 0,.slice none 0 0] 9 6,.sto 8 6,.val 8 (FV (.bool true))] hHeld (xy (xn (xn (xy (xn (tD 4 (vQ 5 wU.l (vQ 5 wU.r (ut (uu (tD 7 sQ)))))) ?_)) ?_) ?_)) ?_
    ·intro A w5 hb hk KK Q k;obtain⟨_,r1,b5,A5,n5,c5,E5,k5,f5,rfl,h1⟩:=vd (hk 2 rfl) rfl;have r2:A.tmps.getD 26 undef=.agg #[.bool b3,.slice A3 n3 c3,.slice E3 k3 f3]:=hk 3 rfl;have h2:=HP.o.below hb;go_simp;(with_reducible refine(fw (((l*x).num:Int):Rat) (l*x) b5 A5 n5 c5 E5 k5 f5 b3 A3 n3 c3 E3 k3 f3 _ (HT.o _ (zc HB.o hb)) h1 h2 (ah.o.fit h1 za) (HZ.o.fit h2 za) aa.o).mono ?_);rintro e w6 ⟨b6,A6,n6,c6,E6,k6,f6,rfl,h6,hb⟩;rw [Z.o] at h6;exact k _ _ hb ⟨b6,A6,n6,c6,E6,k6,f6,rfl,h6⟩
    ·intro A w5 hb hk KK Q k;obtain⟨_,r1,b5,A5,n5,c5,rfl,h1⟩:=vd (hk 1 rfl) rfl;go_simp;(with_reducible refine(Nh (l*x).num b5 A5 n5 c5 _ (HT.o _ (zc HB.o hb)) h1 (y9 (K:=K+K0) (zb HZ.o.num) h1 za)).mono ?_);rintro e w6 ⟨b6,A6,n6,c6,E6,k6,f6,rfl,h6,hb⟩;exact k _ _ hb ⟨b6,A6,n6,c6,E6,k6,f6,rfl,h6⟩
    ·intro A w5 hb hk KK Q k;have r1:A.tmps.getD 23 undef=.agg #[.bool b3,.slice A3 n3 c3,.slice E3 k3 f3]:=hk 0 rfl;have h2:=HP.o.below hb;go_simp;(with_reducible refine(SS (l*x) b3 A3 n3 c3 E3 k3 f3 _ (HT.o _ (zc HB.o hb)) h2 (HZ.o.fit h2 za)).mono ?_);rintro e w6 ⟨b6,A6,n6,c6,rfl,h6,hb⟩;exact k _ _ hb ⟨b6,A6,n6,c6,rfl,h6⟩
    rintro vs ad w8 hb ⟨-,-,-,-,-,-,⟨b6,A6,n6,c6,E6,k6,f6,e6,h6⟩,-,⟨l7,k7⟩,-⟩ -;rw [e6] at k7;simp only [vX,vv,List.foldl,zI];generalize ad 8=q7 at*;have t:=zb (t.o.below hb);have s:=zb (zg hb s.o);have j:=zb (zg hb j.o);have HB:=zb (zc HB.o hb);have HR:=zb h6;have O:zd (zh w8 q7 54 #[.bool b6,.slice A6 n6 c6,.slice E6 k6 f6]):=k7;clear hb e6 h6 k7 l7 GG hHeld HP D;obtain⟨p0,p1,p2⟩:=O.o.c3;obtain⟨g0,g1,g2⟩:=s.o.c3;go_wp2_with fail;(with_reducible refine(sG (HT.o _ HB.o) t.o HR.o H.o ag.o).mono ?_);rintro e w9 ⟨b8,A8,n8,c8,E8,k8,f8,rfl,M,hb⟩;clear p0 p1 p2 g0 g1 g2;rw [<-e1] at M;have z:=zg hb s.o;have o:=zg hb j.o;have hB:=zc HB.o hb;obtain⟨an,aq,ao,ar,ap,au⟩:=yf z (.bool b8) (.slice A8 n8 c8);have af:=zb (fq M z (yb.s3 _ _ _ _ _ _ _) (vA _ _ (.bool b8) (.slice A8 n8 c8) (.slice E8 k8 f8)));have Y:=zb (ym z (.bool b8) (.slice A8 n8 c8) (.slice E8 k8 f8));have N:=zb (zh.far3 o (show w.heap.size≠g3 by omega) (.bool b8) (.slice A8 n8 c8) (.slice E8 k8 f8));have X:=zb (tw (.bool b8) (.slice A8 n8 c8) (.slice E8 k8 f8) (show w.heap.size<=g3 by omega) hB);clear hb M z o hB HB j s O t HR;go_wp2;go_roundg (n - k)
    case measure=>omega
    case rel=>exact⟨k+1,b8,A8,n8,c8,E8,k8,f8,za,za,by go_num,Y.o,by rw [P.o];exact af.o,N.o,X.o⟩
  ·have hk:k=n:=za;subst hk;have am:decide ((k:Int)<(k:Int))=false:=zG;rw [ac.o] at G;obtain⟨g0,g1,g2⟩:=z.c3;obtain⟨an,aq,ao,ar,ap,au⟩:=yf o (.bool b) (.slice B m d);obtain⟨r0,r1,r2⟩:=(ym o (.bool b) (.slice B m d) (.slice E u v)).c3;have HG:=zb (vp G o hB (qX _));clear G z o hB;go_wp2;refine bodyPost_ret (v:=.agg #[.bool b,.slice B m d,.slice E u v]) (by simp [results,results84,go_sem,r0,r1,r2]) rfl ?_;exact HG.o
def nf (Pc:Value->Prop)(w:World)(v:Value):Prop:=∀g,v.ownBlock=some g->∃(cur:Array Value) (e:TypeId),w.heap[g]?=some (.cells cur e (0,0))/\∀u ∈ cur.toList,Pc u
theorem nf.nil {Pc:Value->Prop}(w:World)(c:Nat):nf Pc w (.slice none 0 c):=λg h=>by simp [Value.ownBlock] at h
section
variable {P:Program}{Pc:Value->Prop}(w:World)
theorem Rz (s:Nat)(t ty e:TypeId)(i:TypeInfo)(z:Value)(size bytes:Nat)(ht:P.underlying t=some (.slice e))(hi:P.info? e=some i)(hz:i.zero=some z)
  (I:i.size=size) (Q:i.bytes=bytes) (T:z.cells.size=size) (hsz:0<size)
  (v:Value) (n:Nat) (xs:List Value) (o:w.ownsRow s e size v n xs)
  (a:Addr) (m c:Nat) (d:List Value) (hl:d.length=m*size) (B:∀j u,d[j]?=some u->w.cell? (a.add j)=some u) (h1:∀u ∈ d,u.oneCell'=true)
  (K:n+m<=maxLen) (C:(n+m)*bytes<=140737488355328) (F:s<=w.heap.size)
  (hv:nf Pc w v) (S:∀u ∈ z.cells.toList,Pc u) (O:∀u ∈ d,Pc u):
  ∃ v' w',(Builtin.append_ #[t,t] ty #[v,.slice (some a) m c]).run P w = .ok v' w' ∧ w'.ownsRow s e size v' (n + m) (xs ++ d) ∧ w.grownBy w' v.ownBlock ∧
   (v'.ownBlock=v.ownBlock\/v'.ownBlock=some w.heap.size)/\nf Pc w' v':=by
 subst I;subst Q;have hsmall:n+m<=9223372036854775807:=by simp only [maxLen] at K;omega
 have D:(xs++d).length=(n+m)*i.size:=by rw [qT,o.1,hl,QN]
 have grown : ∀ (old : Nat),old < n + m → (∀ u ∈ xs,Pc u) → ∀ (row : Option Nat),
   (w.drew.alloc (.cells (xs.toArray ++ d.toArray ++ Builtin.zeroCells z.cells (grownCap w (n + m) old e - (n + m))) e)).ownsRow s e i.size
     (.slice (some ⟨w.heap.size,0,none⟩) (n+m) (grownCap w (n+m) old e)) (n+m) (xs++d)/\
   w.grownBy (w.drew.alloc (.cells (xs.toArray++d.toArray++Builtin.zeroCells z.cells (grownCap w (n+m) old e - (n+m))) e)) row/\
   nf Pc (w.drew.alloc (.cells (xs.toArray++d.toArray++Builtin.zeroCells z.cells (grownCap w (n+m) old e - (n+m))) e)) (.slice (some ⟨w.heap.size,0,none⟩) (n+m) (grownCap w (n+m) old e)):=by
  intro old ho J row;have R:=grownCap_ge w (n+m) old e;have G:grownCap w (n+m) old e<=maxLen:=grownCap_le_maxLen w (n+m) old e K;refine⟨⟨D,.inr ⟨w.heap.size,_,_,rfl,F,heap_alloc_new w.drew _,R,G,?_,?_⟩⟩,⟨rfl,rfl,rfl,zG,λk hk _=>heap_alloc_old w.drew _ hk⟩,?_⟩
  ·simp only [Array.size_append,XR,size_zeroCells,T,o.1,hl,<-QN];congr 1;omega
  ·simp only [YD,xV];rw [<-xV,<-D];exact jJ
  ·intro g hg;simp [Value.ownBlock] at hg;subst hg;refine⟨_,_,heap_alloc_new w.drew _,λu hu=>?_⟩;simp only [YD,yG] at hu;rcases hu with(hu|hu)|hu
   ·exact J u hu
   ·exact O u hu
   ·exact S u (Vj za hu)
 rcases o.2 with⟨rfl,rfl⟩|⟨g,cap,cur,rfl,hbg,hg,hnc,G,hcs,htake⟩
 ·have hx:xs=[]:=QX (by simpa using o.1);subst hx;by_cases hm:m=0
  ·subst hm;have hn:d=[]:=QX (by simpa using hl);subst hn;refine⟨.slice none 0 0,w,?_,xJ w s e i.size,⟨rfl,rfl,rfl,qX _,λ_ _ _=>rfl⟩,Or.inl rfl,nf.nil _ _⟩;simp [Builtin.append_,run_underlying ht,sizeOf,typeInfo,hi,Builtin.lenOf,Builtin.firstCells,loadCells,loadCellsFrom]
  ·have hr:=run_append_nil (P:=P) w t ty e i z ht hi hz a m c d hl B za za (by have hb:=C;simp only [xR] at hb;omega);have A:=grown 0 za (λu hu=>by cases hu) (Value.ownBlock (.slice none 0 0));simp only [xR,yQ,Array.empty_append] at A⊢;exact⟨_,_,hr,A.1,A.2.1,Or.inr rfl,A.2.2⟩
 ·obtain⟨y,e2,E,H⟩:=hv g rfl;have L:y=cur:=by
   rw [hg] at E;injection E with E;injection E with E;exact E.symm
  subst L;by_cases hroom:n+m<=cap
  ·have M:n*i.size+d.length<=y.size:=by rw [hl,hcs,<-QN];exact qE _ hroom
   have hr:=run_append_room (P:=P) w t ty e i ht hi g n cap y hg a m c d hl B h1 hroom M;refine⟨_,_,hr,⟨D,.inr ⟨g,cap,_,rfl,hbg,setRow_heap w g y _ e _ hg,hroom,G,?_,?_⟩⟩,⟨rfl,rfl,rfl,zG,λk _ hk=>setRow_other w g k _ (λe=>hk (by simp [Value.ownBlock,e]))⟩,Or.inl rfl,?_⟩
   ·simp only [XR,qT,qL,xK,XE];omega
   ·rw [htake,<-D];exact jJ
   ·intro g' N;simp [Value.ownBlock] at N;subst N;refine⟨_,_,setRow_heap w g y _ e _ hg,λu hu=>?_⟩;rw [yG,yG] at hu;rcases hu with(hu|hu)|hu
    ·exact H u (XZ hu)
    ·exact O u hu
    ·exact H u (XA hu)
  ·have holds:∀j u,xs[j]?=some u->w.cell? ((⟨g,0,none⟩:Addr).add j)=some u:=o.cells (g:=g) rfl;have hr:=run_append_grow (P:=P) w t ty e i z ht hi hz ⟨g,0,none⟩ n cap xs o.1 holds a m c d hl B za za (growslice_fits za C);have J:∀u ∈ xs,Pc u:=λu hu=>H u (XZ (by rw [htake];exact hu));have A:=grown cap za J (Value.ownBlock (.slice (some ⟨g,0,none⟩) n cap));exact⟨_,_,hr,A.1,A.2.1,Or.inr rfl,A.2.2⟩
end
theorem xe.off {α:Type}{R:RP α}{Ls:List (List α)}(h:xe R w c t v Ls vs)(hb:∀g s cs,v.ownBlock=some g->zh w g s cs->zh w' g s cs)
  (hE:∀{B:ze} {m d:Nat} {L:List α},R w B m d L->R w' B m d L):xe R w' c t v Ls vs:=by
 refine⟨⟨h.own.1,?_⟩,λg e=>?_,λi L hi=>?_⟩
 ·rcases h.own.2 with h1|⟨g,cap,a,e1,e2,e3,e4⟩
  ·exact .inl h1
  ·exact .inr ⟨g,cap,a,e1,e2,hb g t a (by rw [e1];rfl) e3,e4⟩
 ·obtain⟨a,s,h1,h2⟩:=h.sl g e;exact⟨a,s,hb g s a e h1,h2⟩
 ·obtain⟨B,d,hv,hw⟩:=h.num i L hi;exact⟨B,d,hv,hE hw⟩
theorem xe.at_ {α:Type}{R:RP α}{d n:Nat}{k:Nat}{Ls:List (List α)}(h:xe R w d t (.slice A k c) Ls vs)(hn:0<Ls.length):∃g a,A=some ⟨g,0,none⟩/\d<=g/\k=Ls.length/\k<=c/\c<=maxLen/\zh w g t a/\a.size=c/\a.toList.take k=vs/\∀u ∈ a.toList,xc u:=by
 rcases h.own.2 with⟨_,h0⟩|⟨g,cap,a,e1,e2,e3,e4,e5,e6,e7⟩
 ·omega
 ·injection e1 with a1 a2 a3;subst a1 a2 a3;obtain⟨cur2,s,h1,h2⟩:=h.sl g rfl;rw [e3] at h1;injection h1 with h1;injection h1 with h1 _;subst h1;exact⟨g,a,rfl,e2,rfl,e4,e5,e3,za,by rw [<-e7,xS],h2⟩
theorem xe.set_ {α:Type}{R:RP α}(hR:tJ R){w:World}{a:Nat}{t:TypeId}{g k c:Nat}{Ls:List (List α)}{vs:List Value}(h:xe R w a t (.slice (some ⟨g,0,none⟩) k c) Ls vs){i:Nat}(hi:i<Ls.length){L:List α}{B:ze}{m d:Nat}(hx:R w B m d L)(hm:L.length=m):
  xe R (w.setCell ⟨g,i,none⟩ (.slice B m d)) a t (.slice (some ⟨g,0,none⟩) k c) (Ls.set i L) (vs.set i (.slice B m d)):=by
 subst hm;obtain⟨g',cur,e1,e2,e3,e4,e5,hk,e6,e7,hs⟩:=h.at_ (n:=0) za;injection e1 with e1;injection e1 with e1;subst e1;have hl:=h.len;have ho:yl g w (w.setCell ⟨g,i,none⟩ (.slice B L.length d)):=yl.of_far ((xg.refl g w).set_ i _);have o:=hk.set_ i (.slice B L.length d);refine⟨⟨by rw [QV,QV,hl,xS],.inr ⟨g,c,_,by rw [QV,<-e3],e2,o,by rw [QV,<-e3];exact e4,e5,by simp;exact e6,?_⟩⟩,λq hq=>?_,λj M hj=>?_⟩
 ·rw [QV,<-e3,xS,QL,YR,e7]
 ·simp [Value.ownBlock] at hq;subst hq;refine⟨_,_,o,λu hu=>?_⟩;rw [QL] at hu;rcases xL hu with hu|rfl
  ·exact hs u hu
  ·exact⟨_,_,_,rfl⟩
 ·by_cases hij:i=j
  ·subst hij;rw [XY hi] at hj;injection hj with hj;subst hj;exact⟨B,d,by rw [XY za],hR.offS hx hk hs ho⟩
  ·rw [XJ hij] at hj;obtain⟨B',d',c1,c2⟩:=h.num j M hj;exact⟨B',d',by rw [XJ hij];exact c1,hR.offS c2 hk hs ho⟩
def gz (u:Value):Prop:=∃z,u=.int .i64 z
def vG (ld:List Nat):List Value:=ld.map λl:Nat=>.int .i64 (l:Int)
structure wM (w:World)(base:Nat)(v:Value)(ld:List Nat):Prop where
 own:w.ownsRow base 3 1 v ld.length (vG ld)
 pr:nf gz w v
theorem wM.nil (w:World)(a:Nat):wM w a (.slice none 0 0) []:=⟨xJ _ _ _ _,nf.nil _ _⟩
theorem wM.off (h:wM w c v ld)(hb:∀g s cs,v.ownBlock=some g->zh w g s cs->zh w' g s cs):wM w' c v ld:=by
 refine⟨⟨h.own.1,?_⟩,λg e=>?_⟩
 ·rcases h.own.2 with h1|⟨g,cap,a,e1,e2,e3,e4⟩
  ·exact .inl h1
  ·exact .inr ⟨g,cap,a,e1,e2,hb g _ a (by rw [e1];rfl) e3,e4⟩
 ·obtain⟨a,s,h1,h2⟩:=h.pr g e;exact⟨a,s,hb g s a e h1,h2⟩
theorem wM.shape (h:wM w a v ld):∃A c,v=.slice A ld.length c/\ld.length<=c/\c<=9223372036854775807/\(∀ad,A=some ad->a<=ad.block)/\∀i,i<ld.length->∃ad,A=some ad/\w.cell? (ad.add i)=some (.int .i64 (ld.getD i 0:Nat)):=by
 rcases h.own.2 with⟨rfl,h0⟩|⟨g,cap,cur,rfl,hbg,hg,hnc,hcm,hcs,htake⟩
 ·exact⟨none,0,by rw [h0],za,zf,(λad e=>by cases e),λi hi=>by omega⟩
 ·have d:=h.own.cells (g:=g) rfl;refine⟨some ⟨g,0,none⟩,cap,rfl,hnc,by unfold maxLen at hcm;omega,(λad e=>by injection e with e;subst e;exact hbg),λi hi=>⟨_,rfl,d _ _ ?_⟩⟩;unfold vG;rw [qW,qQ,qY hi];rfl
theorem Zr (hs:∀u ∈ cs.toList,gz u):tT .u64 cs:=λu hu z e=>by
 obtain⟨z',e2⟩:=hs u hu;rw [e2] at e;cases e
theorem fE (hs:∀u ∈ cs.toList,xc u):tT .u64 cs:=λu hu z e=>by
 obtain⟨A,n,c,e2⟩:=hs u hu;rw [e2] at e;cases e
def RV (w:World)(x:Rat)(x0 x1 x2:Value):Prop:=∃(b:Bool) (A:ze) (n c:Nat) (E:ze) (k f:Nat),x0=.bool b/\x1=.slice A n c/\x2=.slice E k f/\zp w x b A n c E k f
theorem RV.of {b:Bool}{E:ze}{f:Nat}(h:zp w x b A n c E k f):RV w x (.bool b) (.slice A n c) (.slice E k f):=⟨_,_,_,_,_,_,_,rfl,rfl,rfl,h⟩
theorem RV.below (h:RV w x x0 x1 x2)(hb:Below w.heap.size w w'):RV w' x x0 x1 x2:=by
 obtain⟨b,A,n,c,E,k,f,e0,e1,e2,hr⟩:=h;exact⟨b,A,n,c,E,k,f,e0,e1,e2,hr.below hb⟩
theorem RV.off (h:RV w x x0 x1 x2)(hk:zh w g t cs)(a:tT .u64 cs)(ho:yl g w w'):RV w' x x0 x1 x2:=by
 obtain⟨b,A,n,c,E,k,f,e0,e1,e2,hr⟩:=h;exact⟨b,A,n,c,E,k,f,e0,e1,e2,vM hk a ho hr⟩
section
variable {w w':World}{g:Nat}{e:sn}{rd:Rat}{A:ze}{n cA:Nat}{B:ze}{k cB:Nat}{x0 x1 x2 y0 y1 y2:Value}
theorem jG {q:Nat}{s:TypeId}{ds:Array Value}(h:zh w q t cs)(h':zh w q s ds):t=s:=by
 unfold zh at h h';rw [h] at h';injection h' with h';injection h' with _ h'
end
section
variable {w:World}
def vF (c:Nat)(Ls:List (List Rat)):Int:=if Ls.findIdx (λrow=> !decide (row.getD c 0=0))<Ls.length then((Ls.findIdx (λrow=> !decide (row.getD c 0=0)):Nat):Int) else -1
theorem ms (hk:k<Ls.length)(h0:∀j,j<k->(Ls.getD j []).getD c 0=0)(h1:(Ls.getD k []).getD c 0≠0):vF c Ls=(k:Int):=by
 have e:Ls.findIdx (λrow=> !decide (row.getD c 0=0))=k:=by
  rw [List.findIdx_eq hk];have hg:∀j (hj:j<Ls.length),Ls.getD j []=Ls[j]:=λj hj=>by rw [qQ,qY hj];rfl
  refine⟨by rw [hg k hk] at h1;simpa using h1,λj hj=>?_⟩;have:=h0 j hj;rw [hg j za] at this;simpa using this
 unfold vF;rw [e,if_pos hk]
theorem NR (h:(!decide (x=0))=true):x≠0:=by simpa using h
theorem NA (h0:∀j,j<Ls.length->(Ls.getD j []).getD c 0=0):vF c Ls= -1:=by
 unfold vF;rw [if_neg];intro h;have h1:=List.findIdx_getElem (p:=λrow:List Rat=> !decide (row.getD c 0=0)) (xs:=Ls) (w:=h);have h2:=h0 _ h;rw [qQ (l:=Ls),qY h] at h2;exact NR h1 h2
end
