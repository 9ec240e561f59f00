/- What this claim leans on. -/
import Derived.Test.YtdfdjfiognhbgaaGreatDoorDJ8Lib
set_option linter.unusedVariables false
set_option linter.unusedSimpArgs false
namespace Go.Proofs.YtdfdjfiognhbgaaGreatDoor
open Go Go.RowKit Go.Proofs.Tryz
set_option maxHeartbeats 16000000
set_option maxRecDepth 100000
variable {b m y:Nat}{w w':World}
theorem TV (r:Rat)(s:Bool)(x:Nat)(y:Nat)(g:ze)(d j:Nat)(i:ze)(c k:Nat)(w:World)(hT:zu w)(u:zn w x g d j)(n:zn w y i c k)(S:d<=268435456)(U:c<=268435456)(hn:r.num=zW s x)(hd:r.den=y)(hy:y=1):
  Calls prog 125 #[.bool s,.agg #[.slice g d j],.agg #[.slice i c k]] w (xe w r):=by
 have L:=za (wO (T:=zu));have HT:=zj w (λw' hb=>hT.on hb);have HTB:=HT;obtain⟨K,R⟩:∃K,268435456=K:=⟨_,rfl⟩;have hKK:K<=268435456:=zb;have hK0:0<K:=zb;have P:=za hn;have O:zd (r.den=1):=hd.trans hy;have M:zd (c<=1):=nN n hy;have Q:zd (((wd y 0:Nat):Int)=1):=by show _=_;rw [hy];rfl
 have o:=zj w (λw' b=>u.below b);have t:zd (Sz K x):=Sz.of_words u zb;clear u S;have B:=zj w (λw' b=>n.below b);have HZab:zd (Sz K y):=Sz.of_words n zb;clear n U;clear hT R hn hd hy;go_enter func125,ntmps125;have hB:=qZ w.heap.size w;have H:=(yn w 37 37 41 #[.slice g d j] #[.slice i c k] #[.bool false,.slice none 0 0,.slice none 0 0]).2.2.1;obtain⟨C,D,E,F,bz⟩:=yn w 37 37 41 #[.slice g d j] #[.slice i c k] #[.bool false,.slice none 0 0,.slice none 0 0];have hB:=zc hB C;have g1:=D.c1;have g2:=E.c1;have k3:=F;clear C D E F bz;go_wp2_with fail;generalize ((w.alloc (.cells #[.slice g d j] 37)).alloc (.cells #[.slice i c k] 37)).alloc (.cells #[.bool false,.slice none 0 0,.slice none 0 0] 41)=W1 at*;have k2:=H;clear H;(with_reducible refine(Te (Q.o) (gR (y) i c k _ (B.o _ hB) M.o)).mono ?_);rintro e A ⟨rfl,hb⟩;have hB:=zc hB hb;obtain⟨g1,g2⟩:=xc hb g1 g2;obtain⟨k3,k2⟩:=yq hb k3 k2;clear hb ;have m:=za (en A);obtain⟨I,J⟩:=fO k2;have z:=gK k2 (.slice none 0 0);have g1:=zR (q:=⟨w.heap.size+1,0,none⟩) (.slice none 0 0) (by show w.heap.size≠w.heap.size+1;omega) (g1);have k3:=zh.far (p:=⟨w.heap.size+1,0,none⟩) (k3) (by show w.heap.size+1+1≠w.heap.size+1;omega) (.slice none 0 0);have m:=za (lZ m.o k2 (yf.s1 _ _ _) (qh _ _ (.slice none 0 0)));have hB:=o0 (.slice none 0 0) (by show w.heap.size<=w.heap.size+1;omega) hB;have g2:(A.setCell ⟨w.heap.size+1,0,none⟩ (.slice none 0 0)).cell? ⟨w.heap.size+1,0,none⟩=some (.slice none 0 0):=z.cell 0;have k2:=z;go_wp2_with fail;clear I J z;generalize A.setCell ⟨w.heap.size+1,0,none⟩ (.slice none 0 0)=W3 at*;go_wp2_with fail;have HZ5:zd (Sz (K) (zW s x).natAbs):=(by rw [jE];exact t.o);have C0:=zj W3 (λw' h=>L.o.new s (x) g d j w' (HT.o _ (zc hB h)) (o.o _ (zc hB h)) (yo t (o.o _ hB)));have a:=(qZ W3.heap.size W3).drew;refine rg (zl g1 (zl g2 zJ)) (λhHeld=>?_);refine tk 0 ?_;refine tk 1 ?_;refine tk 3 ?_;refine rc 2 (λK hK=>?_);go_simp;go_at_call 146;(with_reducible refine(C0.o _ a).mono ?_);rintro e wa4 ⟨b5,B5,m5,d5,rfl,G,hb⟩;have a:=zc a hb;refine hK.out _ _ (Cs.below hHeld hb) (λhHeld=>?_);clear hK K hb
 try simp only [zG]
 refine tk 4 ?_;obtain⟨I,J,sc1,sf1,sc2,sf2⟩:=yh (zf a k3) (.bool b5) (.slice B5 m5 d5);refine rc 5 (λK hK=>?_);go_simp;refine hK.out _ _ (tB (.bool b5) (.slice B5 m5 d5) (.slice none 0 0) hHeld) (λhHeld=>?_);clear hK K
 try simp only [zG]
 refine zT ?_;have hB:=zc hB a;have g1:=zt a g1;obtain⟨k3,k2⟩:=yq a k3 k2;have m:=za (m.o.below a);have g2:=zt a g2;have N:=za G;clear a hHeld G C0;obtain⟨r0,r1,r2⟩:=(yg k3 (.bool b5) (.slice B5 m5 d5) (.slice none 0 0)).c3;have HG:=za (wZ (Pn P.o O.o N.o m.o) k3 hB zb);go_wp2;refine bodyPost_ret (v:=.agg #[.bool b5,.slice B5 m5 d5,.slice none 0 0]) (by simp [results,results125,go_sem,r0,r1,r2]) rfl ?_;exact HG.o
theorem TX (r:Rat)(s:Bool)(x:Nat)(y:Nat)(j:ze)(i k:Nat)(c:ze)(a d:Nat)(w:World)(hT:zu w)(u:zn w x j i k)(m:zn w y c a d)(O:i<=268435456)(P:a<=268435456)(hn:r.num=zW s x)(hd:r.den=y)(hy:y≠1)(hm:a<=1):
  Calls prog 125 #[.bool s,.agg #[.slice j i k],.agg #[.slice c a d]] w (xe w r):=by
 have G:=za (wO (T:=zu));have HT:=zj w (λw' hb=>hT.on hb);have HTB:=HT;obtain⟨K,N⟩:∃K,268435456=K:=⟨_,rfl⟩;have hKK:K<=268435456:=zb;have hK0:0<K:=zb;have L:=za hn;have J:=za hd;have HY:=za hy;have H:=za hm;have M:zd (((wd y 0:Nat):Int)=(y:Int)):=by show _=_;rw [Z3 (PT m hm)]
 have kb1:((y:Int)==1)=false:=by rw [beq_eq_false_iff_ne];omega
 have n:=zj w (λw' b=>u.below b);have t:zd (Sz K x):=Sz.of_words u zb;clear u O;have o:=zj w (λw' b=>m.below b);have HZab:zd (Sz K y):=Sz.of_words m zb;clear m P;clear hT N hn hd hy hm;go_enter func125,ntmps125;have hB:=qZ w.heap.size w;have F:=(yn w 37 37 41 #[.slice j i k] #[.slice c a d] #[.bool false,.slice none 0 0,.slice none 0 0]).2.2.1;obtain⟨A,B,C,D,bz⟩:=yn w 37 37 41 #[.slice j i k] #[.slice c a d] #[.bool false,.slice none 0 0,.slice none 0 0];have hB:=zc hB A;have g1:=B.c1;have g2:=C.c1;have k3:=D;clear A B C D bz;go_wp2_with fail;generalize ((w.alloc (.cells #[.slice j i k] 37)).alloc (.cells #[.slice c a d] 37)).alloc (.cells #[.bool false,.slice none 0 0,.slice none 0 0] 41)=W1 at*;have k2:=F;clear F;(with_reducible refine(Te (M.o) (gR (y) c a d _ (o.o _ hB) H.o)).mono ?_);rintro e z ⟨rfl,hb⟩;have hB:=zc hB hb;obtain⟨g1,g2⟩:=xc hb g1 g2;obtain⟨k3,k2⟩:=yq hb k3 k2;clear hb ;go_wp2_with fail;have HZ4:zd (Sz (K) (zW s x).natAbs):=(by rw [jE];exact t.o);have C0:=zj z (λw' h=>G.o.new s (x) j i k w' (HT.o _ (zc hB h)) (n.o _ (zc hB h)) (yo t (n.o _ hB)));have g:=(qZ z.heap.size z).drew;refine rg (zl g1 (zl g2 zJ)) (λhHeld=>?_);refine tk 0 ?_;refine tk 1 ?_;refine tk 3 ?_;refine rc 2 (λK hK=>?_);go_simp;go_at_call 146;(with_reducible refine(C0.o _ g).mono ?_);rintro e wa3 ⟨b4,B4,m4,d4,rfl,E,hb⟩;have g:=zc g hb;refine hK.out _ _ (Cs.below hHeld hb) (λhHeld=>?_);clear hK K hb
 try simp only [zG]
 refine tk 4 ?_;obtain⟨sc0,sf0,sc1,sf1,sc2,sf2⟩:=yh (zf g k3) (.bool b4) (.slice B4 m4 d4);refine rc 5 (λK hK=>?_);go_simp;refine hK.out _ _ (tB (.bool b4) (.slice B4 m4 d4) (.slice c a d) hHeld) (λhHeld=>?_);clear hK K
 try simp only [zG]
 refine zT ?_;have hB:=zc hB g;obtain⟨g1,g2⟩:=xc g g1 g2;obtain⟨k3,k2⟩:=yq g k3 k2;have I:=za E;clear g hHeld E C0;obtain⟨r0,r1,r2⟩:=(yg k3 (.bool b4) (.slice B4 m4 d4) (.slice c a d)).c3;have HG:=za (wZ (Wk L.o J.o HY.o I.o (o.o _ hB)) k3 hB zb);go_wp2;refine bodyPost_ret (v:=.agg #[.bool b4,.slice B4 m4 d4,.slice c a d]) (by simp [results,results125,go_sem,r0,r1,r2]) rfl ?_;exact HG.o
theorem TY (r:Rat)(s:Bool)(x:Nat)(y:Nat)(j:ze)(i k:Nat)(c:ze)(a d:Nat)(w:World)(hT:zu w)(o:zn w x j i k)(t:zn w y c a d)(N:i<=268435456)(O:a<=268435456)(hn:r.num=zW s x)(hd:r.den=y)(hy:y≠1)(hm:1<a):
  Calls prog 125 #[.bool s,.agg #[.slice j i k],.agg #[.slice c a d]] w (xe w r):=by
 have G:=za (wO (T:=zu));have HT:=zj w (λw' hb=>hT.on hb);have HTB:=HT;obtain⟨K,M⟩:∃K,268435456=K:=⟨_,rfl⟩;have hKK:K<=268435456:=zb;have hK0:0<K:=zb;have L:=za hn;have J:=za hd;have HY:=za hy;have H:=za hm;have m:=zj w (λw' b=>o.below b);have n:zd (Sz K x):=Sz.of_words o zb;clear o N;have z:=zj w (λw' b=>t.below b);have HZab:zd (Sz K y):=Sz.of_words t zb;clear t O;clear hT M hn hd hy hm;go_enter func125,ntmps125;have hB:=qZ w.heap.size w;have F:=(yn w 37 37 41 #[.slice j i k] #[.slice c a d] #[.bool false,.slice none 0 0,.slice none 0 0]).2.2.1;obtain⟨A,B,C,D,bz⟩:=yn w 37 37 41 #[.slice j i k] #[.slice c a d] #[.bool false,.slice none 0 0,.slice none 0 0];have hB:=zc hB A;have g1:=B.c1;have g2:=C.c1;have k3:=D;clear A B C D bz;go_wp2_with fail;generalize ((w.alloc (.cells #[.slice j i k] 37)).alloc (.cells #[.slice c a d] 37)).alloc (.cells #[.bool false,.slice none 0 0,.slice none 0 0] 41)=W1 at*;have k2:=F;clear F;(with_reducible refine(gT c a d _ H.o).mono ?_);rintro e u ⟨rfl,hb⟩;have hB:=zc hB hb;obtain⟨g1,g2⟩:=xc hb g1 g2;obtain⟨k3,k2⟩:=yq hb k3 k2;clear hb ;go_wp2_with fail;have HZ4:zd (Sz (K) (zW s x).natAbs):=(by rw [jE];exact n.o);have C0:=zj u (λw' h=>G.o.new s (x) j i k w' (HT.o _ (zc hB h)) (m.o _ (zc hB h)) (yo n (m.o _ hB)));have g:=(qZ u.heap.size u).drew;refine rg (zl g1 (zl g2 zJ)) (λhHeld=>?_);refine tk 0 ?_;refine tk 1 ?_;refine tk 3 ?_;refine rc 2 (λK hK=>?_);go_simp;go_at_call 146;(with_reducible refine(C0.o _ g).mono ?_);rintro e wa3 ⟨b4,B4,m4,d4,rfl,E,hb⟩;have g:=zc g hb;refine hK.out _ _ (Cs.below hHeld hb) (λhHeld=>?_);clear hK K hb
 try simp only [zG]
 refine tk 4 ?_;obtain⟨sc0,sf0,sc1,sf1,sc2,sf2⟩:=yh (zf g k3) (.bool b4) (.slice B4 m4 d4);refine rc 5 (λK hK=>?_);go_simp;refine hK.out _ _ (tB (.bool b4) (.slice B4 m4 d4) (.slice c a d) hHeld) (λhHeld=>?_);clear hK K
 try simp only [zG]
 refine zT ?_;have hB:=zc hB g;obtain⟨g1,g2⟩:=xc g g1 g2;obtain⟨k3,k2⟩:=yq g k3 k2;have I:=za E;clear g hHeld E C0;obtain⟨r0,r1,r2⟩:=(yg k3 (.bool b4) (.slice B4 m4 d4) (.slice c a d)).c3;have HG:=za (wZ (Wk L.o J.o HY.o I.o (z.o _ hB)) k3 hB zb);go_wp2;refine bodyPost_ret (v:=.agg #[.bool b4,.slice B4 m4 d4,.slice c a d]) (by simp [results,results125,go_sem,r0,r1,r2]) rfl ?_;exact HG.o
theorem gX (r:Rat)(s:Bool)(x:Nat)(y:Nat)(d:ze)(c i:Nat)(g:ze)(a j:Nat)(w:World)(hT:zu w)(k:zn w x d c i)(m:zn w y g a j)(n:c<=268435456)(o:a<=268435456)(hn:r.num=zW s x)(hd:r.den=y):
  Calls prog 125 #[.bool s,.agg #[.slice d c i],.agg #[.slice g a j]] w (xe w r):=by
 by_cases hy:y=1
 ·exact TV r s x y d c i g a j w hT k m n o hn hd hy
 ·by_cases hm:a<=1
  ·exact TX r s x y d c i g a j w hT k m n o hn hd hy hm
  ·exact TY r s x y d c i g a j w hT k m n o hn hd hy zb
theorem bW {x y n m:Nat}(hx:(dg 65536 x).length<=n)(hy:(dg 65536 y).length<=m):(dg 65536 (x*y)).length<=n+m:=by
 refine wy zg _ _ ?_;rw [xX];exact XU (qJ (ym zg x) (qV zg hx)) (qJ (ym zg y) (qV zg hy))
theorem Rk (x y j:Nat):x*(y / 65536^(j+1))*2^16+(x*(y / 65536^j%65536)+0)=x*(y / 65536^j):=by
 conv=>rhs;rw [jT 65536 y j]
 rw [qC,show(2:Nat)^16=65536 from by decide,qG,qS (y / 65536^(j+1)) 65536];exact congrArg _ (xN _)
theorem bQ (w:World):zB w 0 none 0 0:=⟨zH.none_,qY _,zb⟩
theorem Zf (x y:Nat)(A D:ze)(n m c d:Nat)(w:World)(hA:zB w x A n c)(hD:zB w y D m d)(hn:n<=68719476736)(hm:m<=68719476736):
  Calls prog 92 #[.slice A n c,.slice D m d] w λe w'=>∃(A':ze) (n' c':Nat),e=.returned (.slice A' n' c')/\zB w' (x*y) A' n' c'/\Below w.heap.size w w':=by
 have u:=za hA.len;have z:=za hD.len;have HA:=zj w (λw' hb=>hA.below hb);have hR:=hD.1;have H0:zd (x*(y / 65536^m)=0):=by
  show _=_;rw [QL (by rw [z.o];exact ym zg y),yZ]
 clear hA hD;go_enter func92,ntmps92;go_wp2_with fail
 go_loopg [5,6] (m+1) (λg o ix wr=>∃(k:Nat) (A':ze) (n' c':Nat),k<=m/\k<g/\ix=.int .i64 ((k:Int) - 1)/\o=.slice A' n' c'/\zd (zB wr (x*(y / 65536^k)) A' n' c')/\Below w.heap.size w wr)
 case atStart=>exact⟨m,none,0,0,qY _,zb,rfl,rfl,by show zB _ _ _ _ _;rw [H0.o];exact bQ _,qZ _ _⟩
 case round=>
  obtain⟨k,A',n',c',hk,hg,rfl,rfl,hO,hB⟩:=hrel;by_cases hk0:k=0
  ·subst hk0;have s:=hO.o;rw [XB,Nat.div_one] at s;have HG:=za s;clear hO s;go_wp2;go_ret;exact⟨_,_,_,rfl,HG.o,hB⟩
  ·obtain⟨j,rfl⟩:∃j,k=j+1:=⟨k - 1,zb⟩;obtain⟨ad,rfl,hadb,t⟩:=wB (hR.below hB) (k:=j) zb;rw [oj] at t;have i:y / 65536^j%65536<65536:=QH _ zg;have B:=Rk x y j;have hnl:n'<=n+m:=by
    rw [hO.o.len];exact bW (by have:=u.o;omega) (by have:=z.o;have:=tm (b:=65536) zg (QS y (65536^(j+1)));omega)
   have J:∀{w':World} {L:ze} {K M:Nat},zB w' (x*(y / 65536^(j+1))*2^16) L K M->K<=n+m+1:=λh=>by
    rw [h.len];have h2:=bW (x:=x) (y:=y / 65536^(j+1)*2^16) (n:=n) (m:=m) (by have:=u.o;omega) (by
     have h3:y / 65536^(j+1)*2^16<=y:=by
      rw [show(2:Nat)^16=65536 from by decide];have h4:=Nat.div_mul_le_self y (65536^(j+1));have h5:65536<=65536^(j+1):=by rw [qP];exact Nat.le_mul_of_pos_left _ (XH zg)
      exact qL (QB _ h5) h4
     have:=tm (b:=65536) zg h3;have:=z.o;omega)
    rw [qG];omega
   obtain⟨dd,G⟩:∃v,y / 65536^j%65536=v:=⟨_,rfl⟩;rw [G] at t i B;have S1:=zj wr (λw' h=>show Calls prog 141 #[.slice A' n' c',.int .i64 16] w' (vc w' (x*(y / 65536^(j+1))*2^16)) from Ze (x*(y / 65536^(j+1))) 16 A' n' c' w' (hO.o.below h) zb zb);have S2:=zj wr (λw' h=>show Calls prog 142 #[.slice A n c,.int .i64 dd,.int .i64 0] w' (vc w' (x*dd+0)) from ej x dd 0 A n c w' ((HA.o _ hB).below h) zb i zg);have S3:=(λw' (h:Below wr.heap.size wr w') A1 n1 c1 A2 n2 c2 (h1:zB w' (x*(y / 65536^(j+1))*2^16) A1 n1 c1) (h2:zB w' (x*dd+0) A2 n2 c2)=>Zd _ _ A1 A2 n1 n2 c1 c2 w' h1 h2 (by have:=J h1;omega) (by rw [h2.len,xN];have:=bW (x:=x) (y:=dd) (n:=n) (m:=1) (by have:=u.o;omega) (wy zg _ _ (by simpa using i));omega));rw [B] at S3;have O:=za S3;clear S3 B G i J;obtain⟨s1,s2⟩:(0:Int)<=(j:Int)/\(j:Int)<(m:Int):=zb;go_wp2_with fail;have C:Below wr.heap.size wr wr.drew:=(qZ _ wr).drew;have F:wr.drew.cell? (ad.add j)=some (.int .i64 dd):=t
   go_region_held3 (fun w' => Below wr.heap.size wr w' ∧ w'.cell? (ad.add j) = some (.int .i64 dd))
    (first|(exact⟨C,F⟩)|(go_split_ands;refine⟨?_,?_⟩;all_goals (first|exact zk|exact zc zk hb|exact zt hb zk)))
    (first
      |(go_at_call 141;(with_reducible refine(S1.o _ (by first|exact zk|exact XV zk)).mono ?_);intro e w' hg;obtain⟨A8,n8,c8,rfl,a,hb⟩:=hg.elim;clear hg)
      |(go_at_call 142;(with_reducible refine(S2.o _ (by first|exact zk|exact XV zk)).mono ?_);intro e w' hg;obtain⟨A9,n9,c9,rfl,I,hb⟩:=hg.elim;have a:=a.below hb;clear hg)
      |(go_at_call 140;(with_reducible refine(O.o _ (by first|exact zk|exact XV zk) _ _ _ _ _ _ a I).mono ?_);intro e w' hg;obtain⟨A7,n7,c7,rfl,H,hb⟩:=hg.elim;clear hg))
   rename_i hH
   obtain⟨E,_⟩:=hH;have N:=zc hB E;have HN:=za H;clear hb C E H a I F;go_wp2;go_roundg (j+1)
   case measure=>omega
   case rel=>exact⟨j,_,_,_,zb,zb,by go_num,rfl,HN,N⟩
def kG (w:World)(x:Nat)(e:Ending)(w':World):Prop:=∃(A:ze) (n c:Nat),e=.returned (.slice A n c)/\zB w' x A n c/\Below w.heap.size w w'
theorem PN (w:World)(g:Nat)(h:zh w g 3 #[.int .i64 1]):zB w 1 (some ⟨g,0,none⟩) 1 1:=by
 have e:dg 65536 1=[1]:=by
  rw [kf zg zg];rfl
 refine⟨?_,qY _,zb⟩;rw [e];refine⟨rfl,λ_=>⟨_,rfl,h.lt,λj u hu=>?_⟩⟩
 match j,hu with
 |0,hu=>simp [zq] at hu;subst hu;exact h.cell 0
def Fr (w:World)(A:ze):Prop:=∀ad,A=some ad->w.heap.size<=ad.block
theorem Fr.from_ {A:ze}(h:Fr w' A)(hb:Below w.heap.size w w'):Fr w A:=λad e=>qL hb.size (h ad e)
theorem vc.elim2 {x:Nat}{e:Ending}(h:vc w x e w'):∃(A:ze) (n c:Nat),e=.returned (.slice A n c)/\zB w' x A n c/\Fr w A/\Below w.heap.size w w':=by
 obtain⟨A,c,rfl,hr,h1,⟨h2,hf⟩,h3⟩:=h;exact⟨A,_,c,rfl,⟨hr,h1,h2⟩,hf,h3⟩
def Xt (w:World)(q r:Nat)(e:Ending)(w':World):Prop:=∃(A:ze) (n c:Nat) (B:ze) (m d:Nat),e=.returned (.tuple #[.slice A n c,.slice B m d])/\zB w' q A n c/\Fr w A/\zB w' r B m d/\Below w.heap.size w w'
theorem kL (hb:b<2)(h:m%y*2+b<y):(m+m+b) / y=m / y*2+0/\(m+m+b)%y=m%y*2+b:=by
 have h1:=XK m y;have e:m+m+b=y*(m / y*2)+(m%y*2+b):=by rw [qS (m / y) 2,Nat.mul_left_comm];omega
 rw [e,Nat.mul_add_div zb,Nat.mul_add_mod,QL h,qO h];exact⟨rfl,rfl⟩
theorem nm (hy:y≠0)(hb:b<2)(h:y<=m%y*2+b):(m+m+b) / y=m / y*2+0+1/\(m+m+b)%y=m%y*2+b - y:=by
 have h1:=XK m y;have h2:=QH m (y:=y) zb;have h3:m%y*2+b - y<y:=zb;have e:m+m+b=y*(m / y*2+1)+(m%y*2+b - y):=by rw [qC,qS (m / y) 2,Nat.mul_left_comm];omega
 rw [e,Nat.mul_add_div zb,Nat.mul_add_mod,QL h3,qO h3];exact⟨rfl,rfl⟩
theorem VP (x y:Nat):decide (0<=z7 x y)=decide (y<=x):=by
 rw [Bool.eq_iff_iff];simp only [decide_eq_true_eq];unfold z7
 split
 ·omega
 ·split<;>omega
theorem Yl (x y:Nat)(A D:ze)(n m c d:Nat)(w:World)(hA:zB w x A n c)(hD:zB w y D m d)(hn:n<=17179869184)(hm:m<=17179869184)(hy:y≠0):
  Calls prog 139 #[.slice A n c,.slice D m d] w (Xt w (x / y) (x%y)):=by
 have ah:=za hA.len;have ai:=za hD.len;have HA:=zj w (λw' hb=>hA.below hb);have HD:=zj w (λw' hb=>hD.below hb);have RB:=Wx x A n c w hA zb;have ag:bitLen x<=16*n:=by
  have h1:=ym (b:=65536) zg x;rw [<-hA.len,show(65536:Nat)=2^16 from rfl,<-yG] at h1;exact jt _ _ h1
 have h0:x / 2^bitLen x=0:=QL (nO x);obtain⟨l,hl⟩:∃l,bitLen x=l:=⟨_,rfl⟩;rw [hl] at RB ag h0;have ab:=za RB;have H0:=za h0;clear hA hD RB hl h0;go_enter func139,ntmps139;go_wp2_with fail;refine ab.o.mono ?_;rintro e w' ⟨rfl,rfl⟩;go_wp2_with fail
 go_loopg [6,7,8] (l+1) (λg qs rs ix wr=>∃(j:Nat) (A1:ze) (n1 c1:Nat) (A2:ze) (n2 c2:Nat),j<=l/\j<g/\ix=.int .i64 ((j:Int) - 1)/\qs=.slice A1 n1 c1/\rs=.slice A2 n2 c2/\zd (zB wr (x / 2^j / y) A1 n1 c1)/\zd (zB wr (x / 2^j%y) A2 n2 c2)/\Below w.heap.size w wr/\zd (Fr w A1))
 case atStart=>
  refine⟨l,none,0,0,none,0,0,qY _,zb,rfl,rfl,rfl,?_,?_,qZ _ _,λad e=>by cases e⟩
  ·show zB _ _ _ _ _;rw [H0.o,Nat.zero_div];exact bQ _
  ·show zB _ _ _ _ _;rw [H0.o,Nat.zero_mod];exact bQ _
 case round=>
  obtain⟨j,A1,n1,c1,A2,n2,c2,hjl,hg,rfl,rfl,rfl,hq,hr,hB,hF⟩:=hrel;by_cases hj:j=0
  ·subst hj;have e1:=hq.o;have e2:=hr.o;rw [XB,Nat.div_one] at e1 e2;have HG:zd (Xt w (x / y) (x%y) (.returned (.tuple #[.slice A1 n1 c1,.slice A2 n2 c2])) wr):=⟨_,_,_,_,_,_,rfl,e1,hF.o,e2,hB⟩;clear hq hr e1 e2 hF;go_wp2
   go_ret2
   exact HG.o
  ·obtain⟨i,rfl⟩:∃i,j=i+1:=⟨j - 1,zb⟩;have hqn:n1<=n:=by
    rw [hq.o.len,ah.o];exact tm zg (qL (QS _ _) (QS _ _))
   have hrn:n2<=m:=by
    rw [hr.o.len,ai.o];exact tm zg (QD (QH _ zb))
   have a:x / 2^i%2<2:=QH _ zg;have o:=pq x i;have WB:=qF x i A n c wr (HA.o _ hB) zb zb;obtain⟨M,hM⟩:∃M,x / 2^(i+1)=M:=⟨_,rfl⟩;obtain⟨b,hb⟩:∃b,x / 2^i%2=b:=⟨_,rfl⟩;rw [hM] at hq hr o;rw [hb] at o a WB;have S1:=ej (M%y) 2 b A2 n2 c2 wr hr.o zb zg zb;have ac:=za WB;have I:=za S1;have N:=za o;have hr1:(dg 65536 (M%y*2+b)).length<=n2+1:=by
    refine wy zg _ _ ?_;have h1:=ym (b:=65536) zg (M%y);rw [<-hr.o.len] at h1;rw [qP];omega
   have hq1:(dg 65536 (M / y*2+0)).length<=n1+1:=by
    refine wy zg _ _ ?_;have h1:=ym (b:=65536) zg (M / y);rw [<-hq.o.len] at h1;rw [qP];omega
   clear WB S1 hM hb hr o;go_wp2_with fail;refine ac.o.mono ?_;rintro e w' ⟨rfl,rfl⟩;go_wp2_with fail;refine I.o.mono ?_;intro e w1 S;obtain⟨A3,n3,c3,rfl,E,t⟩:=S.elim;have O:=zc hB t;have hn3:n3<=m+1:=by rw [E.len];omega
   have J:=za (ej (M / y) 2 0 A1 n1 c1 w1 (hq.o.below t) zb zg zg);have H3:=za E;clear S E t hq I;go_wp2_with fail;refine J.o.mono ?_;intro e w2 T;obtain⟨A4,n4,c4,rfl,F,Q,u⟩:=T.elim2;have k:=zc O u;have Z:=za (Q.from_ O);have hn4:n4<=n+1:=by rw [F.len];omega
   have H3:=za (H3.o.below u);have H4:=za F;have H:=za (fo (M%y*2+b) y A3 D n3 m c3 d w2 H3.o (HD.o _ k) zb zb);clear T F u J Q hF;go_wp2_with fail;refine H.o.mono ?_;rintro e w3 ⟨rfl,q,rfl⟩;clear H;by_cases hlt:M%y*2+b<y
   ·have hd:decide (z7 (M%y*2+b) y>=0)=false:=by
     show decide (0<=z7 _ _)=false;rw [VP];simp;omega
    have C:decide (0<=z7 (M%y*2+b) y)=false:=hd;obtain⟨e1,e2⟩:=kL a hlt;rw [<-N.o] at e1 e2;have HQ:zd (zB (w2.drewN q) (x / 2^i / y) A4 n4 c4):=by show zB _ _ _ _ _;rw [e1];exact H4.o
    have HR:zd (zB (w2.drewN q) (x / 2^i%y) A3 n3 c3):=by show zB _ _ _ _ _;rw [e2];exact H3.o
    have s:=un k q;obtain⟨z,hz⟩:∃z,z7 (M%y*2+b) y=z:=⟨_,rfl⟩;rw [hz] at hd C⊢;clear e1 e2 hz hlt;go_wp2;go_roundg (i+1)
    case measure=>omega
    case rel=>exact⟨i,_,_,_,_,_,_,zb,zb,by go_num,rfl,rfl,HQ,HR,s,Z⟩
   ·have hd:decide (z7 (M%y*2+b) y>=0)=true:=by
     show decide (0<=z7 _ _)=true;rw [VP];simp;omega
    have C:decide (0<=z7 (M%y*2+b) y)=true:=hd;obtain⟨e1,e2⟩:=nm hy a (by omega:y<=M%y*2+b);rw [<-N.o] at e1 e2;have K:=za (mW (M%y*2+b) y zb A3 D n3 m c3 d (w2.drewN q) H3.o (HD.o _ (un k q)) zb zb);have E1:=za e1;have E2:=za e2;have s:=un k q;obtain⟨z,hz⟩:∃z,z7 (M%y*2+b) y=z:=⟨_,rfl⟩;rw [hz] at hd C⊢;clear e1 e2 hz hlt;go_wp2_with fail;refine K.o.mono ?_;intro e w4 U;obtain⟨A5,n5,c5,rfl,X,v⟩:=U.elim;have ae:=zc s v;have G:zB (w2.drewN q) (M / y*2+0) A4 n4 c4:=H4.o;have st:=km w4 (.cells #[.int .i64 1] 3);have h1:=PN _ _ (zh.new w4 3 #[.int .i64 1]);have L:=za (Zd (M / y*2+0) 1 A4 (some ⟨w4.heap.size,0,none⟩) n4 1 c4 1 _ ((G.below v).below st) h1 zb zb);have H5:=za (X.below st);have P:=zc ae st;clear U X v K G h1 st;go_wp2_with fail;refine L.o.mono ?_;intro e w5 V;obtain⟨A6,n6,c6,rfl,Y,R,B⟩:=V.elim2;have af:=zc P B;have aa:=za (R.from_ P);have HQ:zd (zB w5 (x / 2^i / y) A6 n6 c6):=by show zB _ _ _ _ _;rw [E1.o];exact Y
    have HR:zd (zB w5 (x / 2^i%y) A5 n5 c5):=by show zB _ _ _ _ _;rw [E2.o];exact H5.o.below B
    clear V Y B L R;go_wp2;go_roundg (i+1)
    case measure=>omega
    case rel=>exact⟨i,_,_,_,_,_,_,zb,zb,by go_num,rfl,rfl,HQ,HR,af,aa⟩
