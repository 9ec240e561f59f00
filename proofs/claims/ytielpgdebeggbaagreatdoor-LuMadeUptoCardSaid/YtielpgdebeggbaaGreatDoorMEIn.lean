/- What this claim leans on. -/
import Derived.Test.YtielpgdebeggbaaGreatDoorMLNext
import Derived.Test.YtielpgdebeggbaaGreatDoorMLWhole
set_option linter.unusedVariables false
set_option linter.unusedSimpArgs false
namespace Go.Proofs.YtielpgdebeggbaaGreatDoor
open Go Go.RowKit Go.Proofs.Tryz
set_option maxHeartbeats 16000000
set_option maxRecDepth 100000
variable {e:yF}{M:List (List Rat)}{zs:List Int}{qs:List Nat}{K c cA cB cD g k m n:Nat}{x0 x1 x2:Value}{w:World}{A B D:ze}
section
variable {w:World}
theorem RK {c:Nat}{z:Int}(h:tt w A n zs)(hn:n<=1048576):
  Calls prog 120 #[.slice A n c,.int .i64 z] w (λeo w'=>∃k:Int,eo=.returned (.int .i64 k)/\decide (k>=0)=decide (z ∈ zs)/\Below w.heap.size w w'):=by
 have HI:=zb h;have i0:(0:Int)<=(n:Int):=za;have hB:=qZ w.heap.size w;have HY:zd (∀k,k<n->zs.getD k 0=z->decide (z ∈ zs)=true):=λk hk e=>decide_eq_true (by
  rw [<-e,qQ,qY (by have:=h.len;omega)];exact xU _)
 have HN:zd ((∀j,j<n->zs.getD j 0≠z)->decide (z ∈ zs)=false):=λh0=>decide_eq_false (λhm=>by
  obtain⟨j,hj,e⟩:=List.mem_iff_getElem.1 hm;refine h0 j (by rw [<-h.len];exact hj) ?_;rw [qQ,qY hj];exact e)
 obtain⟨b,hb⟩:∃b,decide (z ∈ zs)=b:=⟨_,rfl⟩;rw [hb] at HY HN⊢;clear h hb;go_enter func120,ntmps120;go_wp2_with fail
 go_loopg [8] (n+1) (λg ix wr=>∃(k:Nat),k<=n/\n<g+k/\ix=.int .i64 k/\zd (∀j,j<k->zs.getD j 0≠z)/\Below w.heap.size w wr)
 case atStart=>exact⟨0,qM _,za,rfl,λj hj=>(by cases hj),hB⟩
 case round=>
  clear hB;obtain⟨k,hkn,hg,rfl,m,hB⟩:=hrel;by_cases hlt:k<n
  ·have t:decide ((k:Int)<(n:Int))=true:=decide_eq_true za;have i1:(0:Int)<=(k:Int):=za;have i2:(k:Int)<(n:Int):=za;obtain⟨ad,rfl,hc⟩:=HI.o.num k hlt;have s:=zw hB hc;have d:zd (zs.getD k 0≠z->∀j,j<k+1->zs.getD j 0≠z):=λe j hj=>by
    rcases xG j k with a|a
    ·exact m.o j a
    ·rw [show j=k by omega];exact e
   have i:=zb (HY.o k hlt);have HB:=zb hB;obtain⟨x,hx⟩:∃x,zs.getD k 0=x:=⟨_,rfl⟩;rw [hx] at s d i;clear hB hc hx;by_cases hxz:x=z
   ·have d2:(z==x)=true:=by rw [hxz];simp
    have HE:=zb (i.o hxz);clear d i hxz;go_wp2;go_ret;exact⟨(k:Int),rfl,by rw [HE.o];exact decide_eq_true za,HB.o⟩
   ·have d2:(z==x)=false:=by rw [beq_eq_false_iff_ne];exact λe=>hxz e.symm
    have o:=zb (d.o hxz);clear d i hxz;go_wp2;go_roundg (n - k)
    case measure=>omega
    case rel=>exact⟨k+1,za,za,by go_num,o.o,HB.o⟩
  ·have u:k=n:=za;subst u;have t:decide ((k:Int)<(k:Int))=false:=zF;have HE:=zb (HN.o m.o);have HB:=zb hB;clear hB;go_wp2;go_ret;exact⟨-1,rfl,by rw [HE.o];rfl,HB.o⟩
theorem We {z:Int}{b:Bool}(e:decide (z ∈ zs)=b)(h:tt w A n zs)(hn:n<=1048576):
  Calls prog 77 #[.slice A n c,.int .i64 z] w (λeo w'=>eo=.returned (.bool b)/\Below w.heap.size w w'):=by
 have H:=zb (RK (c:=c) (z:=z) h hn);rw [e] at H;clear h e;go_enter func77,ntmps77;go_wp2_with fail;refine H.o.mono ?_;rintro eo w1 ⟨k,rfl,hk,hb⟩;have hk2:decide (0<=k)=b:=hk;have HB:=zb hb;clear hb;go_wp2;go_ret;exact⟨rfl,HB.o⟩
end
theorem Zo {a s:Nat}{t:TypeId}{xs:List Value}(h:w.ownsRow a t s (.slice A n c) k xs)(hk:0<k):∃g,A=some ⟨g,0,none⟩:=by
 rcases h.2 with⟨_,h2⟩|⟨g,cap,cur,h1,_⟩
 ·omega
 ·injection h1 with h1;exact⟨g,h1⟩
theorem zE.somes {l:Nat}(h:zE w g m e A n cA B k cB D l cD x0 x1 x2 qs)(h1:0<n)(h2:0<k)(h3:0<l):∃gA gB gD,A=some ⟨gA,0,none⟩/\B=some ⟨gB,0,none⟩/\D=some ⟨gD,0,none⟩:=by
 obtain⟨us,hu⟩:=h.times;obtain⟨a,ea⟩:=Zo h.rows.own (by rw [h.hn];exact h1);obtain⟨b,eb⟩:=Zo hu.own (by rw [h.hk];exact h2);obtain⟨d,ed⟩:=Zo h.perm.own (by rw [h.hl];exact h3);exact⟨a,b,d,ea,eb,ed⟩
def Uv (K n:Nat)(M:List (List Rat))(w:World)(eo:Ending)(w':World):Prop:=
 (tH n M n/\∃g,eo=.returned (.tuple #[.pointer (some ⟨g,0,none⟩),.bool true])/\w.heap.size<=g/\(∃A cA B cB D cD x0 x1 x2 qs,zE w' g n (xh M n) A n cA B n cB D n cD x0 x1 x2 qs)/\Below w.heap.size w w')\/
 (zB n (zl M)=0/\eo=.returned (.tuple #[.pointer none,.bool false])/\Below w.heap.size w w')
section
variable {w:World}{A:ze}{n c m K K0:Nat}{M:List (List Rat)}
theorem SP (hnm:n≠m):
  Calls prog 10 #[.agg #[.slice A n c,.int .i64 (m:Int)]] w (λeo w'=>eo=.returned (.tuple #[.pointer none,.bool false])/\Below w.heap.size w w'):=by
 obtain⟨d,g,-⟩:=zA w 28 #[.slice A n c,.int .i64 (m:Int)];obtain⟨p0,p1⟩:=g.c2;have HB:=zb d;have d1:((n:Int) !=(m:Int))=true:=by rw [bne_iff_ne];omega
 clear d g;go_enter func10,ntmps10;go_wp2_with fail;generalize w.alloc (.cells #[.slice A n c,.int .i64 (m:Int)] 28)=W1 at*;have h:=(qZ W1.heap.size W1).drew;refine rg (zj p0 (zj p1 zO)) (λhHeld=>?_);have HB:=zb (zc HB.o h);clear p0 p1 h;generalize W1.drew=D at*;refine tk 0 ?_;refine tk 2 ?_;refine rc 1 (λKK a=>?_);go_simp;refine(oO A n c (m:Int) _).mono ?_;rintro eo w2 ⟨rfl,hb⟩;refine a.out _ _ (Cs.below hHeld hb) (λhHeld=>?_);have HB:=zb (zc HB.o hb);clear a KK hb;refine rc 3 (λKK a=>?_);go_simp;refine(uL A n c (m:Int) _).mono ?_;rintro eo w3 ⟨rfl,hb⟩;refine a.out _ _ (Cs.below hHeld hb) (λhHeld=>?_);have HB:=zb (zc HB.o hb);clear a KK hb;refine tk 4 ?_;refine zV ?_;clear hHeld;go_wp2;refine bodyPost_ret (v:=.tuple #[.pointer none,.bool false]) (by simp [results,results10,go_sem]) rfl ?_;exact⟨rfl,HB.o⟩
theorem ZZ (hT:zu w)(h:xm w A n c n M)(z:zW K0 M)(hW:yy K M)(hn:n<=64)(hK:67+65*K<=8388608)(H:K+K0<=33554432:=by omega)(I:0<K:=by omega):
  Calls prog 10 #[.agg #[.slice A n c,.int .i64 (n:Int)]] w (Uv K n M w):=by
 have HM:=zk w (λw' hb=>h.keep hb);have HT:=zk w (λw' hb=>hT.on hb);have G:=zb (oz hT);have HZ:=zb z;have HW:=zb hW;have HD:=zb h.dims;obtain⟨E,u,-⟩:=zA w 28 #[.slice A n c,.int .i64 (n:Int)];obtain⟨p0,p1⟩:=u.c2;have HB:=zb E;have j:=zb u;have d1:((n:Int) !=(n:Int))=false:=zF;have i0:(0:Int)<=(n:Int):=za;unfold Uv;clear h hT z hW E u;go_enter func10,ntmps10;go_wp2_with fail;generalize w.alloc (.cells #[.slice A n c,.int .i64 (n:Int)] 28)=W1 at*;have y:=(qZ W1.heap.size W1).drew;refine rg (zj p0 (zj p1 zO)) (λhHeld=>?_);have HB:=zb (zc HB.o y);have j:=zb (zg y j.o);clear p0 p1 y;generalize W1.drew=D at*;refine tk 0 ?_;refine tk 2 ?_;refine rc 1 (λKK s=>?_);go_simp;refine(oO A n c (n:Int) _).mono ?_;rintro eo w2 ⟨rfl,hb⟩;refine s.out _ _ (Cs.below hHeld hb) (λhHeld=>?_);have HB:=zb (zc HB.o hb);have j:=zb (zg hb j.o);clear s KK hb;refine rc 3 (λKK s=>?_);go_simp;refine(uL A n c (n:Int) _).mono ?_;rintro eo w3 ⟨rfl,hb⟩;refine s.out _ _ (Cs.below hHeld hb) (λhHeld=>?_);have HB:=zb (zc HB.o hb);have j:=zb (zg hb j.o);clear s KK hb;refine tk 4 ?_;refine zV ?_;clear hHeld;obtain⟨p0,p1⟩:=j.o.c2;go_wp2_with fail;(with_reducible refine(mD (HT.o _ HB.o) (HM.o _ HB.o) HZ.o HW.o hn za H I).mono ?_);rintro eo w4 ⟨g,rfl,hg,⟨A4,cA,B4,cB,D4,cD,x0,x1,x2,qs,a⟩,hb⟩;have C:w.heap.size<=g:=qH HB.o.size hg;have L:0<g:=by have:=G.o;omega
 have hB:=zc HB.o hb;have q0:=a.blk.cell 0;clear hb hg p0 p1 HB j;go_wp2_with fail;clear q0
 go_loopg [18] (n+1) (λgg ix wr=>∃(i:Nat) (A:ze) (cA:Nat) (B:ze) (cB:Nat) (D:ze) (cD:Nat) (x0 x1 x2:Value) (qs:List Nat),i<=n/\n<gg+i/\ix=.int .i64 i/\tH n M i/\zE wr g n (xh M i) A n cA B n cB D n cD x0 x1 x2 qs/\Below w.heap.size w wr)
 case atStart=>exact⟨0,_,_,_,_,_,_,_,_,_,_,qM _,za,rfl,λk hk=>absurd hk (Nat.not_lt_zero k),a,hB⟩
 case round=>
  clear a hB;obtain⟨i,A,cA,B,cB,D,cD,x0,x1,x2,qs,hin,hg,rfl,d,a,hB⟩:=hrel;have HG:=zb d;have HB:=zb hB;by_cases hlt:i<n
  ·have J:decide ((i:Int)<(n:Int))=true:=decide_eq_true za;obtain⟨gA,gB,gD,rfl,rfl,rfl⟩:=a.somes za za za;have m:=zb a;have t:=zb (gK HD.o hn HW.o d);clear a hB d;by_cases hb:wH i (xh M i)<n - i
   ·have o:=zb hb;clear hb;go_wp2_with fail;(with_reducible refine(Rq (HT.o _ HB.o) m.o t.o HD.o HW.o L hlt hn o.o hK).mono ?_);rintro eo w9 ⟨rfl,⟨y0,y1,y2,qs',a⟩,hb⟩;have m:=zb a;have HB:=zb (HB.o.trans (hb.mono C));clear a hb;go_wp2;go_roundg (n - i)
    case measure=>omega
    case rel=>exact⟨i+1,_,_,_,_,_,_,_,_,_,_,za,za,by go_num,λk hk=>by
     by_cases e:k=i
     ·rw [e];exact o.o
     ·exact HG.o k za,by rw [UX];exact m.o,HB.o⟩
   ·have o:=zb hb;clear hb;go_wp2_with fail;(with_reducible refine(RW (HT.o _ HB.o) m.o t.o hlt hn o.o za).mono ?_);rintro eo w9 ⟨rfl,hb⟩;have HB:=zb (HB.o.trans (hb.mono C));have F:=zb (To t.o hlt o.o);clear hb;go_wp2;refine bodyPost_ret (v:=.tuple #[.pointer none,.bool false]) (by simp [results,results10,go_sem]) rfl ?_;exact Or.inr ⟨F.o,rfl,HB.o⟩
  ·have N:i=n:=za;subst N;have J:decide ((i:Int)<(i:Int))=false:=zF;have m:=zb a;clear a hB d;go_wp2;refine bodyPost_ret (v:=.tuple #[.pointer (some ⟨g,0,none⟩),.bool true]) (by simp [results,results10,go_sem]) rfl ?_;exact Or.inl ⟨HG.o,g,rfl,C,⟨_,_,_,_,_,_,_,_,_,_,m.o⟩,HB.o⟩
end
theorem eV {l:Nat}(h:zE w g m e A n cA B k cB D l cD x0 x1 x2 qs):
  Calls prog 70 #[.pointer (some ⟨g,0,none⟩)] w (λeo w'=>eo=.returned (.int .i64 (n:Int))/\Below w.heap.size w w'):=by
 have q0:=h.blk.cell 0;have HB:=zb (qZ w.heap.size w);clear h;go_enter func70,ntmps70;go_wp2;go_ret;exact⟨rfl,HB.o⟩
theorem Qj:∀(args:Array Value) (w':World),Sem.run prog (callFunc 116 args) w'=.ok (.enter 116 args) w':=Go.Proofs.enters_of func116 yd rfl
section
variable {w:World}{Q:ze}{n q m gc:Nat}{S:List (List Rat)}
theorem R8 {r:Nat}(hk:zh w gc 26 #[.slice Q n q])(h:yx (yg zo) w Q n S)(hd:zM S n m)(hr:r<n)(hc:c<m):
  Calls prog 116 (#[.int .i64 (c:Int),.int .i64 (r:Int)]++#[.pointer (some ⟨gc,0,none⟩)]) w (yj w (zl S r c)):=by
 show Calls _ _ #[.int .i64 (c:Int),.int .i64 (r:Int),.pointer (some ⟨gc,0,none⟩)] _ _;obtain⟨a,i,-⟩:=zA w 52 #[.bool false,.slice none 0 0,.slice none 0 0];have g0:=(zg a hk).c1;obtain⟨ad,C,d,rfl,-,h0,hv⟩:=h.get (xe z6) (qZ _ _) hr (hd.row hr);have hv:zR w C m d (S.getD r []):=hv;obtain⟨ae,b1,B1,m1,d1,E1,u1,v1,rfl,-,q0,q1,q2,hx⟩:=hv.get (qZ _ _) hc;have hx:zo w (zl S r c) b1 B1 m1 d1 E1 u1 v1:=hx;obtain⟨h0,q0,q1,q2⟩:=tg a h0 q0 q1 q2;have i1:(0:Int)<=(r:Int):=za;have i2:(r:Int)<(n:Int):=za;have i3:(0:Int)<=(c:Int):=za;have i4:(c:Int)<(m:Int):=za;obtain⟨sc0,sf0,sc1,sf1,sc2,sf2⟩:=y6 i (.bool b1) (.slice B1 m1 d1);obtain⟨g,j,-⟩:=zA w 52 #[.bool b1,.slice B1 m1 d1,.slice E1 u1 v1];obtain⟨r0,r1,r2⟩:=j.c3;have HG:zd (yj w (zl S r c) (.returned (.agg #[.bool b1,.slice B1 m1 d1,.slice E1 u1 v1])) (w.alloc (.cells #[.bool b1,.slice B1 m1 d1,.slice E1 u1 v1] 52))):=⟨_,_,_,_,_,_,_,rfl,hx.below g,g⟩;clear hk h hd a i hv hx g j;go_enter func116,ntmps116;go_wp2;refine bodyPost_ret (v:=.agg #[.bool b1,.slice B1 m1 d1,.slice E1 u1 v1]) (by simp [results,results116,go_sem,r0,r1,r2]) rfl ?_;exact HG.o
theorem Vv (h:yx (yg zo) w Q n S)(hd:zM S n n)(hn:n<=64):
  Calls prog 72 #[.slice Q n q] w (kz w n (wg n n λr c=>zl S c r)):=by
 obtain⟨a,d,-⟩:=zA w 26 #[.slice Q n q];have g0:=d.c1;have HG:zd (lK (λr c=>zl S c r) 116 #[.pointer (some ⟨w.heap.size,0,none⟩)] n n (w.alloc (.cells #[.slice Q n q] 26))):=⟨Qj,λr c hr hc w' hb=>R8 (zg hb d) (h.below (xe z6) (zc a hb)) hd hc hr⟩;have HB:=zb a;clear h hd a d;go_enter func72,ntmps72;go_wp2_with fail;(with_reducible refine(Vu (λr c=>zl S c r) _ _ n _ HG.o hn).mono ?_);rintro eo w2 ⟨g2,rfl,g,i,hb⟩;have HF:zd (kz w n (wg n n λr c=>zl S c r) (.returned (.slice (some ⟨g2,0,none⟩) n n)) w2):=⟨g2,rfl,qH HB.o.size g,i,zc HB.o hb⟩;clear hb g i g0;go_wp2;go_ret;exact HF.o
end
theorem lK.on {f:Nat->Nat->Rat}{F:FuncId}{cap:Array Value}{w':World}(h:lK f F cap n m w)(hb:Below w.heap.size w w'):lK f F cap n m w':=⟨h.1,λr c hr hc w2 a=>h.2 r c hr hc w2 (zc hb a)⟩
theorem my {r:Nat}(a:ym n n K M e)(hM:zM M n n)(hW:yy K M)(hr:r<n)(hc:c<n)(d:0<K):zn (4*(67+65*K)) (rl e r c):=by
 unfold rl
 split
 ·exact(LI.zero 1).szq za|>.up za
 ·exact(((a.msz.at_ a.dims hr hc).mul ((a.tli hM hW hc).szq d)).div ((a.msz.at_ a.dims hc hc).mul ((a.tli hM hW hr).szq d))).up za
theorem lD {r:Nat}(a:ym n n K M e)(hM:zM M n n)(hW:yy K M)(hr:r<n)(hc:c<n)(d:0<K):zn (4*(67+65*K)) (rt e r c):=by
 unfold rt
 split
 ·exact(LI.zero 1).szq za|>.up za
 ·exact((a.msz.at_ a.dims hr hc).div ((aK a.msz a.dims (qD hr) (qD hr) za).mul ((a.tli hM hW hr).szq d))).up za
section
variable {w:World}{g n:Nat}{e:yF}{M:List (List Rat)}{cA cB cD:Nat}{A B D:ze}{x0 x1 x2:Value}{qs:List Nat}
theorem Tn (f:Nat->Nat->Rat)(F:FuncId)(cap:Array Value)(hT:zu w)(h:zE w g n e A n cA B n cB D n cD x0 x1 x2 qs)(hG:lK f F cap n n w)(hS:∀r c,r<n->c<n->zn K (f r c))(hn:n<=64)(hK:K+2<=67108864):
  Calls prog 42 #[.pointer (some ⟨g,0,none⟩),.func (.func F) #[] cap] w (sv w n n (wg n n f)):=by
 have HT:=zk w (λw' hb=>hT.on hb);have HS:=zk w (λw' hb=>h.below hb);have HG:=zk w (λw' hb=>hG.on hb);have HZ:zd (zW K (wg n n f)):=λL hL x hx=>by
  obtain⟨r,hr,rfl⟩:=List.mem_map.1 hL;obtain⟨c,hc,rfl⟩:=List.mem_map.1 hx;exact hS r c (List.mem_range.1 hr) (List.mem_range.1 hc)
 have HD:=zb (iP n n f);obtain⟨d,i,-⟩:=zA w 28 #[.slice none 0 0,.int .i64 0];have HB:=zb d;have HK:=zb i;clear hT h hG hS d i;go_enter func42,ntmps42;go_wp2_with fail;generalize w.alloc (.cells #[.slice none 0 0,.int .i64 0] 28)=W1 at*;(with_reducible refine(eV (HS.o _ HB.o)).mono ?_);rintro eo w1 ⟨rfl,hb⟩;have HB:=zb (zc HB.o hb);have HK:=zb (zg hb HK.o);clear hb;go_wp2_with fail;(with_reducible refine(eV (HS.o _ HB.o)).mono ?_);rintro eo w2 ⟨rfl,hb⟩;have HB:=zb (zc HB.o hb);have HK:=zb (zg hb HK.o);clear hb;go_wp2_with fail;(with_reducible refine(Vu f F cap n _ (HG.o _ HB.o) hn).mono ?_);rintro eo w3 ⟨g3,rfl,s,o,hb⟩;have HB:=zb (zc HB.o hb);have HK:=zb (zg hb HK.o);have HR:=zb o.rows;clear hb o s;go_wp2_with fail;(with_reducible refine(aJ (HT.o _ HB.o) HR.o HD.o hn hn HZ.o hK).mono ?_);rintro eo w4 ⟨A4,c4,rfl,m,k,hb⟩;obtain⟨a,j,-⟩:=zA w4 28 #[.slice A4 n c4,.int .i64 (n:Int)];obtain⟨m0,m1⟩:=j.c2;have hk:=zg (zc hb a) HK.o;obtain⟨sc0,sf0,sc1,sf1⟩:=uH hk (.slice A4 n c4);obtain⟨r0,r1⟩:=(uG hk (.slice A4 n c4) (.int .i64 (n:Int))).c2;have HG:=zb (fe (m.keep a) (λad e=>qJ HK.o.lt (k ad e)) hk (zc HB.o (zc hb a)) (qX _));clear hb m k a j hk HB HK HR;go_wp2;refine bodyPost_ret (v:=.agg #[.slice A4 n c4,.int .i64 (n:Int)]) (by simp [results,results42,go_sem,r0,r1]) rfl ?_;exact HG.o
theorem pm (hT:zu w)(h:zE w g n e A n cA B n cB D n cD x0 x1 x2 qs)(i:ym n n K M e)(hM:zM M n n)(hW:yy K M)(hn:n<=64)(hK:4*(67+65*K)<=8388608)(k:0<K):
  Calls prog 11 #[.pointer (some ⟨g,0,none⟩)] w (sv w n n (wg n n (rl e))):=by
 obtain⟨a,d,j,-⟩:=yv w 31 28 #[.pointer (some ⟨g,0,none⟩)] #[.slice none 0 0,.int .i64 0];have q0:=d.c1;have HS:=zb (h.below a);have HT:=zb (hT.on a);have HZ:zd (∀r c,r<n->c<n->zn (4*(67+65*K)) (rl e r c)):=λr c hr hc=>my i hM hW hr hc k;have HG:zd (lK (rl e) 43 #[.pointer (some ⟨w.heap.size,0,none⟩)] n n ((w.alloc (.cells #[.pointer (some ⟨g,0,none⟩)] 31)).alloc (.cells #[.slice none 0 0,.int .i64 0] 28))):=⟨qj,λr c hr hc w' hb=>by
  obtain⟨gA,gB,gD,rfl,rfl,rfl⟩:=h.somes za za za;exact rU (hT.on (zc a hb)) (zg hb d) (h.below (zc a hb)) i hM hW hr hc hn za k⟩
 have HB:=zb a;have HK:=zb j;clear hT h i a d j;go_enter func11,ntmps11;go_wp2_with fail;(with_reducible refine(Tn (rl e) _ _ HT.o HS.o HG.o HZ.o hn za).mono ?_);rintro eo w4 ⟨A4,c4,rfl,o,m,hb⟩;have hk:=zg hb HK.o;obtain⟨sc0,sf0,sc1,sf1⟩:=uH hk (.slice A4 n c4);obtain⟨r0,r1⟩:=(uG hk (.slice A4 n c4) (.int .i64 (n:Int))).c2;have HF:=zb (fe o (λad e=>qJ HK.o.lt (m ad e)) hk (zc HB.o hb) (show w.heap.size<=w.heap.size+1 by omega));clear hb o m hk HB HK HT HS HG HZ q0;go_wp2;refine bodyPost_ret (v:=.agg #[.slice A4 n c4,.int .i64 (n:Int)]) (by simp [results,results11,go_sem,r0,r1]) rfl ?_;exact HF.o
theorem po (hT:zu w)(h:zE w g n e A n cA B n cB D n cD x0 x1 x2 qs)(i:ym n n K M e)(hM:zM M n n)(hW:yy K M)(hn:n<=64)(hK:4*(67+65*K)<=8388608)(k:0<K):
  Calls prog 12 #[.pointer (some ⟨g,0,none⟩)] w (sv w n n (wg n n (rt e))):=by
 obtain⟨a,d,j,-⟩:=yv w 31 28 #[.pointer (some ⟨g,0,none⟩)] #[.slice none 0 0,.int .i64 0];have q0:=d.c1;have HS:=zb (h.below a);have HT:=zb (hT.on a);have HZ:zd (∀r c,r<n->c<n->zn (4*(67+65*K)) (rt e r c)):=λr c hr hc=>lD i hM hW hr hc k;have HG:zd (lK (rt e) 46 #[.pointer (some ⟨w.heap.size,0,none⟩)] n n ((w.alloc (.cells #[.pointer (some ⟨g,0,none⟩)] 31)).alloc (.cells #[.slice none 0 0,.int .i64 0] 28))):=⟨ql,λr c hr hc w' hb=>by
  obtain⟨gA,gB,gD,rfl,rfl,rfl⟩:=h.somes za za za;exact rZ (hT.on (zc a hb)) (zg hb d) (h.below (zc a hb)) i hM hW hr hc hn za k⟩
 have HB:=zb a;have HK:=zb j;clear hT h i a d j;go_enter func12,ntmps12;go_wp2_with fail;(with_reducible refine(Tn (rt e) _ _ HT.o HS.o HG.o HZ.o hn za).mono ?_);rintro eo w4 ⟨A4,c4,rfl,o,m,hb⟩;have hk:=zg hb HK.o;obtain⟨sc0,sf0,sc1,sf1⟩:=uH hk (.slice A4 n c4);obtain⟨r0,r1⟩:=(uG hk (.slice A4 n c4) (.int .i64 (n:Int))).c2;have HF:=zb (fe o (λad e=>qJ HK.o.lt (m ad e)) hk (zc HB.o hb) (show w.heap.size<=w.heap.size+1 by omega));clear hb o m hk HB HK HT HS HG HZ q0;go_wp2;refine bodyPost_ret (v:=.agg #[.slice A4 n c4,.int .i64 (n:Int)]) (by simp [results,results12,go_sem,r0,r1]) rfl ?_;exact HF.o
end
def xn (S C:List (List Rat))(x0:List Rat):Nat->List Rat
 |0=>x0
 |k+1=>uu k (zI (zl S) k) (xn S C x0 k) (C.getD k [])
def wh (n:Nat)(S:List (List Rat))(D:Rat)(x:List Rat):Nat->List Rat
 |0=>[]
 |d+1=>((D*x.getD (n - (d+1)) 0 - uX ((S.getD (n - (d+1)) []).drop (n - d)) (wh n S D x d)) / zl S (n - (d+1)) (n - (d+1)))::wh n S D x d
def wO (n:Nat)(S C:List (List Rat))(b:List Rat):List Rat:=zL (zI (zl S) n*zG b)⁻¹ (wh n S (zI (zl S) n) (xn S C (zL (zG b) b) n) n)
structure wK (n K L:Nat)(a:Nat->Nat->Rat)(S C:List (List Rat))(b:List Rat):Prop where
 dS:zM S n n
 dC:zM C n n
 turn:∀i,i<n->∀k,k<n->zl C k i=zl S i k
 inv:wV n n a (zl S)
 det:zI (zl S) n=zB n a
 ali:∀i,i<n->∀j,j<n->LI K (a i j)
 zS:zW L S
 zC:zW L C
 len:b.length=n
 tli:LI K (zG b)
 bli:∀i,i<n->LI K (zG b*b.getD i 0)
theorem eT (n:Nat)(S:List (List Rat))(D:Rat)(x:List Rat):∀d,(wh n S D x d).length=d
 |0=>rfl
 |d+1=>by show(_::_).length=_;rw [xK,eT n S D x d]
theorem rS {n:Nat}{S:List (List Rat)}{D:Rat}{x:List Rat}:∀e d j,(wh n S D x (d+e)).getD (e+j) 0=(wh n S D x d).getD j 0
 |0,d,j=>by rw [xH];rfl
 |e+1,d,j=>by
   rw [show e+1+j=(e+j)+1 by omega,<-xC];show(_::wh n S D x (d+e)).getD (e+j+1) 0=_;rw [List.getD_cons_succ];exact rS e d j
theorem VK (f:Nat->Rat)(m:Nat):∀d,zt (m+d) (λj=>if m<=j then f j else 0)=zt d λi=>f (m+i)
 |0=>by rw [vS λj hj=>if_neg za];rfl
 |d+1=>by rw [<-xC,x4,x4,VK f m d,if_pos za]
section
variable {n K L:Nat}{a:Nat->Nat->Rat}{S C:List (List Rat)}{b:List Rat}
theorem bF {x0:List Rat}(hC:zM C n n)(hx:x0.length=n):∀c,c<=n->(xn S C x0 c).length=n
 |0,_=>hx
 |c+1,hc=>dZ (bF hC hx c za) (hC.row za) za
theorem cJ {r:Rat}{xs:List Rat}:(zL r xs).length=xs.length:=by unfold zL;rw [QH]
theorem wK.fwd (h:wK n K L a S C b):sh n (zl S) (λi=>zG b*b.getD i 0) (λc i=>(xn S C (zL (zG b) b) c).getD i 0) where
 ne:=h.inv.ne
 zero:=λi _=>sU _
 step:=λc hc i hi=>by
  have hl:(zL (zG b) b).length=n:=by rw [cJ];exact h.len
  show(uu c _ _ _).getD i 0=_;rw [Vj (bF h.dC hl c za) (h.dC.row hc) hc hi];have e1:(C.getD c []).getD c 0=zl S c c:=h.turn c hc c hc;have e2:(C.getD c []).getD i 0=zl S i c:=h.turn i hi c hc;rw [e1,e2]
theorem wK.xsz (h:wK n K L a S C b)(hn:n<=64){c:Nat}(hc:c<=n):zD (67+65*K) (xn S C (zL (zG b) b) c):=λx hx=>by
 have hl:=bF (S:=S) h.dC (by rw [cJ];exact h.len:(zL (zG b) b).length=n) c hc;obtain⟨i,hi,e⟩:=List.mem_iff_getElem.1 hx;have:=h.fwd.sz h.inv hn h.ali h.bli hc (i:=i) za;rw [<-e,show(xn S C (zL (zG b) b) c)[i]=(xn S C (zL (zG b) b) c).getD i 0 by rw [qQ,qY hi];rfl];exact this.szq za
def zX (n:Nat)(S C:List (List Rat))(b:List Rat)(j:Nat):Rat:=(wh n S (zI (zl S) n) (xn S C (zL (zG b) b) n) n).getD j 0
theorem oM {d j:Nat}(hd:d<=n):(wh n S (zI (zl S) n) (xn S C (zL (zG b) b) n) d).getD j 0=zX n S C b (n - d+j):=by
 have:=rS (n:=n) (S:=S) (D:=zI (zl S) n) (x:=xn S C (zL (zG b) b) n) (n - d) d j;rw [show d+(n - d)=n by omega] at this;exact this.symm
theorem wK.rel (h:wK n K L a S C b){k:Nat}(hk:k<n):zt n (λj=>if k<=j then zl S k j*zX n S C b j else 0)=zI (zl S) n*(xn S C (zL (zG b) b) k).getD k 0:=by
 have h0:=h.inv.ne k hk;have e1:=UJ hk (λj=>zl S k j*zX n S C b j) (λ_=>true);simp only [and_true,if_true] at e1;rw [e1];have e2:=VK (λj=>zl S k j*zX n S C b j) (k+1) (n - (k+1));rw [show k+1+(n - (k+1))=n by omega] at e2;rw [e2];have hz:zX n S C b k=(zI (zl S) n*(xn S C (zL (zG b) b) n).getD k 0 - uX ((S.getD k []).drop (k+1)) (wh n S (zI (zl S) n) (xn S C (zL (zG b) b) n) (n - (k+1)))) / zl S k k:=by
  have:=oM (n:=n) (S:=S) (C:=C) (b:=b) (d:=n - (k+1)+1) (j:=0) za;rw [show n - (n - (k+1)+1)+0=k by omega] at this;rw [<-this];show(_::_).getD 0 0=_;rw [List.getD_cons_zero,show n - (n - (k+1)+1)=k by omega,show n - (n - (k+1))=k+1 by omega]
 have g:uX ((S.getD k []).drop (k+1)) (wh n S (zI (zl S) n) (xn S C (zL (zG b) b) n) (n - (k+1)))=zt (n - (k+1)) λi=>zl S k (k+1+i)*zX n S C b (k+1+i):=by
  rw [eC (k:=n - (k+1)) (by rw [QE,h.dS.row hk]) (eT _ _ _ _ _)];refine zU λi _=>?_;rw [Yx,oM za,show n - (n - (k+1))+i=k+1+i by omega];rfl
 have hx:(xn S C (zL (zG b) b) n).getD k 0=(xn S C (zL (zG b) b) k).getD k 0:=h.fwd.late' hk za (qX n);rw [hz,g,hx]
 grind
theorem wK.solves (h:wK n K L a S C b):∀i,i<n->zt n (λj=>a i j*zX n S C b j)=zB n a*(zG b*b.getD i 0):=by
 rw [<-h.det];exact h.fwd.solves h.inv λk hk=>h.rel hk
theorem wK.dne (h:wK n K L a S C b):zI (zl S) n≠0:=h.inv.pr (qX n)
theorem wK.zsz (h:wK n K L a S C b)(hn:n<=64){k:Nat}(hk:k<n):LI (65+64*K) (zX n S C b k):=(Pp hn h.ali h.bli (by rw [<-h.det];exact h.dne) h.solves hk).2
theorem wK.bsz (h:wK n K L a S C b)(hn:n<=64){d:Nat}(hd:d<=n):zD (65+64*K) (wh n S (zI (zl S) n) (xn S C (zL (zG b) b) n) d):=λx hx=>by
 have hl:=eT n S (zI (zl S) n) (xn S C (zL (zG b) b) n) d;obtain⟨i,hi,e⟩:=List.mem_iff_getElem.1 hx;rw [<-e,show(wh n S (zI (zl S) n) (xn S C (zL (zG b) b) n) d)[i]=(wh n S (zI (zl S) n) (xn S C (zL (zG b) b) n) d).getD i 0 by rw [qQ,qY hi];rfl,oM hd];exact(h.zsz hn za).szq za
theorem wK.dsz (h:wK n K L a S C b)(hn:n<=64):LI (65+64*K) (zI (zl S) n):=by
 rw [h.det];refine(LI.det_ hn h.ali).up ?_;have:n*(K+1)<=64*(K+1):=qS _ hn;omega
theorem wK.tne (h:wK n K L a S C b):zG b≠0:=eI (by decide+kernel)
theorem wK.sol (h:wK n K L a S C b){i:Nat}(hi:i<n):zt n (λj=>a i j*(wO n S C b).getD j 0)=b.getD i 0:=by
 have h1:=h.solves i hi;have h2:=h.dne;have h3:=h.tne;have e:∀j,(wO n S C b).getD j 0=(zI (zl S) n*zG b)⁻¹*zX n S C b j:=λj=>sU _;have e2:zt n (λj=>a i j*(wO n S C b).getD j 0)=(zI (zl S) n*zG b)⁻¹*zt n λj=>a i j*zX n S C b j:=by
  rw [wJ];refine zU λj _=>?_;rw [e];grind
 rw [e2,h1,<-h.det];have h4:zI (zl S) n*zG b≠0:=λx=>by
  rcases Rat.mul_eq_zero.1 x with x|x
  ·exact h2 x
  ·exact h3 x
 grind
theorem ZX:(wO n S C b).length=n:=by unfold wO;rw [cJ,eT]
end
