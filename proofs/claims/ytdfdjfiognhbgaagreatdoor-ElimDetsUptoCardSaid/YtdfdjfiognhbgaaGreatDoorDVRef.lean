/- What this claim leans on. -/
import Derived.Test.YtdfdjfiognhbgaaGreatDoorDR8Ref
set_option linter.unusedVariables false
set_option linter.unusedSimpArgs false
namespace Go.Proofs.YtdfdjfiognhbgaaGreatDoor
open Go Go.RowKit Go.Proofs.Tryz
set_option maxHeartbeats 16000000
set_option maxRecDepth 100000
variable {cs:Array Value}{p z:Int}{L:List (Int×Int)}{xs:List Rat}{vs:List Value}{a c g m n:Nat}{t:TypeId}{v:Value}{w w':World}{A:ze}
theorem VY {b:Bool}{F:ze}{k f:Nat}(h:yl w z b A n c)(h1:zB w 1 F k f):y4 w (z:Rat) b A n c F k f:=⟨by rw [yU];exact h,by rw [yW];exact h1⟩
theorem Uf:(#[Value.int .u64 (m:Int)]:Array Value).toList=zq .u64 [m]:=rfl
theorem UH (m:Nat):dv 18446744073709551616 [m]=m:=by simp [dv]
theorem VS (h:m<18446744073709551616):zD 18446744073709551616 [m]:=by intro d hd;simp at hd;omega
theorem SZ (m:Nat)(r:Rat)(hr:((m:Int):Rat)=r)(w:World)(hm:m<=9223372036854775807):
  Calls prog 37 #[.int .i64 (m:Int)] w (oD w r):=by
 have hd0:decide ((m:Int)<0)=false:=decide_eq_false zb;have hw1:IntKind.u64.wrap (m:Int)=(m:Int):=by rw [QA];omega
 have HZ:zd (Sz 1 m):=by show m<18446744073709551616^1;rw [Nat.pow_one];omega
 have HM:zd (m<18446744073709551616):=by show _<_;omega
 have HR:=za hr;obtain⟨y1,y2,y3,-⟩:=zX w 49 132 #[.bool false,.slice none 0 0,.slice none 0 0] #[.int .u64 (m:Int)];have HB:=za y1;have HK:=za y2;have HL:=za y3;clear y1 y2 y3 hm hr;go_enter func37,ntmps37;go_wp2_with fail;generalize (w.alloc (.cells #[.bool false,.slice none 0 0,.slice none 0 0] 49)).alloc (.cells #[.int .u64 (m:Int)] 132)=W1 at*;(with_reducible refine(U3 #[.int .u64 (m:Int)] [m] _ _ 1 m HL.o rfl Uf (VS HM.o) (UH m) zg).mono ?_);intro e w1 hg;obtain⟨C1,r1,f1,rfl,hh,d,hb⟩:=hg.elim2;have j:=za (d.from_ HB.o);have HB:=za (zc HB.o hb);have HK:=za (zf hb HK.o);have HH:=za hh;clear hb hg hh HL d;go_wp2_with fail;(with_reducible refine(jA false m C1 r1 f1 _ HH.o (xn HZ HH.o)).mono ?_);rintro e w2 ⟨b2,rfl,hz,hb⟩;have c:=zc HB.o hb;have g:=zf hb HK.o;obtain⟨s1,s2,-⟩:=zw w2 3 #[.int .i64 1];have h1:=gW s2;have i:yl (w2.alloc (.cells #[.int .i64 1] 3)) (m:Int) b2 C1 r1 f1:=by
  have e:y9 false m=(m:Int):=by unfold y9;simp
  rw [<-e];exact hz.below s1
 have hq:=VY i h1;rw [HR.o] at hq;have a:=zf s1 g;obtain⟨sc0,sf0,sc1,sf1,sc2,sf2⟩:=yh a (.bool b2) (.slice C1 r1 f1);obtain⟨r0,k,r2⟩:=(yg a (.bool b2) (.slice C1 r1 f1) (.slice (some ⟨w2.heap.size,0,none⟩) 1 1)).c3;have HG:=za (uc hq a (zc c s1) (qY _) j.o (λad e9=>by injection e9 with e9;subst e9;exact c.size));clear hz hb c g s1 s2 h1 i hq a HB HK HH;go_wp2;refine bodyPost_ret (v:=.agg #[.bool b2,.slice C1 r1 f1,.slice (some ⟨w2.heap.size,0,none⟩) 1 1]) (by simp [results,results37,go_sem,r0,k,r2]) rfl ?_;exact HG.o
theorem S4 (m:Nat)(r:Rat)(hr:((-(m:Int):Int):Rat)=r)(w:World)(h0:0<m)(hm:m<=9223372036854775808):
  Calls prog 37 #[.int .i64 (-(m:Int))] w (oD w r):=by
 have hd0:decide (-(m:Int)<0)=true:=decide_eq_true zb;obtain⟨v,hv⟩:∃v,IntKind.u64.wrap (-(m:Int))=v:=⟨_,rfl⟩;have hw2:IntKind.u64.wrap (-v)=(m:Int):=by rw [<-hv,QA,QA];omega
 have HZ:zd (Sz 1 m):=by show m<18446744073709551616^1;rw [Nat.pow_one];omega
 have HM:zd (m<18446744073709551616):=by show _<_;omega
 have HR:=za hr;obtain⟨y1,y2,y3,-⟩:=zX w 49 132 #[.bool false,.slice none 0 0,.slice none 0 0] #[.int .u64 (m:Int)];have HB:=za y1;have HK:=za y2;have HL:=za y3;clear y1 y2 y3 hm hr;go_enter func37,ntmps37;go_wp2_with fail;generalize (w.alloc (.cells #[.bool false,.slice none 0 0,.slice none 0 0] 49)).alloc (.cells #[.int .u64 (m:Int)] 132)=W1 at*;(with_reducible refine(U3 #[.int .u64 (m:Int)] [m] _ _ 1 m HL.o rfl Uf (VS HM.o) (UH m) zg).mono ?_);intro e w1 hg;obtain⟨C1,r1,f1,rfl,hh,d,hb⟩:=hg.elim2;have j:=za (d.from_ HB.o);have HB:=za (zc HB.o hb);have HK:=za (zf hb HK.o);have HH:=za hh;clear hb hg hh HL d;go_wp2_with fail;(with_reducible refine(jA true m C1 r1 f1 _ HH.o (xn HZ HH.o)).mono ?_);rintro e w2 ⟨b2,rfl,hz,hb⟩;have c:=zc HB.o hb;have g:=zf hb HK.o;obtain⟨s1,s2,-⟩:=zw w2 3 #[.int .i64 1];have h1:=gW s2;have i:yl (w2.alloc (.cells #[.int .i64 1] 3)) (-(m:Int)) b2 C1 r1 f1:=by
  have e:y9 true m=(-(m:Int)):=by unfold y9;simp
  rw [<-e];exact hz.below s1
 have hq:=VY i h1;rw [HR.o] at hq;have a:=zf s1 g;obtain⟨sc0,sf0,sc1,sf1,sc2,sf2⟩:=yh a (.bool b2) (.slice C1 r1 f1);obtain⟨r0,k,r2⟩:=(yg a (.bool b2) (.slice C1 r1 f1) (.slice (some ⟨w2.heap.size,0,none⟩) 1 1)).c3;have HG:=za (uc hq a (zc c s1) (qY _) j.o (λad e9=>by injection e9 with e9;subst e9;exact c.size));clear hz hb c g s1 s2 h1 i hq a HB HK HH;go_wp2;refine bodyPost_ret (v:=.agg #[.bool b2,.slice C1 r1 f1,.slice (some ⟨w2.heap.size,0,none⟩) 1 1]) (by simp [results,results37,go_sem,r0,k,r2]) rfl ?_;exact HG.o
theorem Xd (hz:xz z):Calls prog 37 #[.int .i64 z] w (oD w (z:Rat)):=by
 obtain⟨h1,h2⟩:=hz;by_cases h0:0<=z
 ·obtain⟨m,rfl⟩:=xU h0;exact SZ m _ rfl w zb
 ·obtain⟨m,hm⟩:∃m:Nat,z= -(m:Int):=⟨z.natAbs,zb⟩;subst hm;exact S4 m _ rfl w zb zb
theorem eB {z:Int}(hz:xz z):Calls prog 37 #[.int .i64 z] w (mZ w (z:Rat)):=(Xd hz).mono λ_ _ h=>h.old
theorem UI (b:Bool)(A E:ze)(n c k f:Nat)(W:World):Sem.run prog (Instr.field 49 (.agg #[.bool b,.slice A n c,.slice E k f]) 0) W=.ok (.agg #[.bool b,.slice A n c]) W:=by
 unfold Instr.field;simp [go_sem];rfl
theorem Qf (hp:xz p):Calls prog 79 #[.int .i64 p,.int .i64 0] w (oD w (uL p 0)):=by
 rw [Us];obtain⟨c,d,-⟩:=zw w 49 #[.bool false,.slice none 0 0,.slice none 0 0];have HB:=za c;have HK:=za d;have HP:=za hp;clear c d hp;go_enter func79,ntmps79;go_wp2_with fail;(with_reducible refine(Xd HP.o).mono ?_);rintro e w2 ⟨b2,A2,n2,c2,E2,k2,f2,rfl,hq,g,i,hb⟩;have a:=zf hb HK.o;obtain⟨sc0,sf0,sc1,sf1,sc2,sf2⟩:=yh a (.bool b2) (.slice A2 n2 c2);obtain⟨r0,j,r2⟩:=(yg a (.bool b2) (.slice A2 n2 c2) (.slice E2 k2 f2)).c3;have HG:=za (uc hq a (zc HB.o hb) (qY _) (g.from_ HB.o) (i.from_ HB.o));clear hb hq a HB HK g i;go_wp2;refine bodyPost_ret (v:=.agg #[.bool b2,.slice A2 n2 c2,.slice E2 k2 f2]) (by simp [results,results79,go_sem,r0,j,r2]) rfl ?_;exact HG.o
theorem Qg {q:Int}(hp:xz p)(hq:xz q)(h0:q≠0):Calls prog 79 #[.int .i64 p,.int .i64 q] w (oD w (uL p q)):=by
 rw [qr h0];have hd0:(q==0)=false:=by rw [beq_eq_false_iff_ne];exact h0
 have H0:=za h0;have j:=za (iA hp.1 hp.2);have k:=za (iA hq.1 hq.2);obtain⟨c,d,-⟩:=zw w 49 #[.bool false,.slice none 0 0,.slice none 0 0];have HB:=za c;have HK:=za d;have HP:=za hp;have HQ:=za hq;clear c d hp hq h0;go_enter func79,ntmps79;go_wp2_with fail;(with_reducible refine(eB HP.o).mono ?_);rintro e w2 ⟨b2,A2,n2,c2,E2,k2,f2,rfl,hx,hb⟩;have HX:zd (yl w2 p b2 A2 n2 c2):=by have h:=hx.1;rw [yU] at h;exact h
 have HB:=za (zc HB.o hb);have HK:=za (zf hb HK.o);clear hb hx;have m:=λW=>UI b2 A2 E2 n2 c2 k2 f2 W;go_wp2_with fail;clear m;(with_reducible refine(eB HQ.o).mono ?_);rintro e w3 ⟨b3,A3,n3,c3,E3,k3,f3,rfl,hy,hb⟩;have HY:zd (yl w3 q b3 A3 n3 c3):=by have h:=hy.1;rw [yU] at h;exact h
 have HX:=za (HX.o.below hb);have HB:=za (zc HB.o hb);have HK:=za (zf hb HK.o);clear hb hy;have n:=λW=>UI b3 A3 E3 n3 c3 k3 f3 W;go_wp2_with fail;clear n;(with_reducible refine(Wo p q b2 A2 n2 c2 b3 A3 n3 c3 1 1 _ j.o HX.o k.o HY.o zg zg H0.o).mono ?_);rintro e w4 ⟨b4,A4,n4,c4,E4,k4,f4,rfl,hq,g,i,hb⟩;have a:=zf hb HK.o;obtain⟨sc0,sf0,sc1,sf1,sc2,sf2⟩:=yh a (.bool b4) (.slice A4 n4 c4);obtain⟨r0,o,r2⟩:=(yg a (.bool b4) (.slice A4 n4 c4) (.slice E4 k4 f4)).c3;have HG:=za (uc hq a (zc HB.o hb) (qY _) (g.from_ HB.o) (i.from_ HB.o));clear hb hq a HB HK HX HY g i;go_wp2;refine bodyPost_ret (v:=.agg #[.bool b4,.slice A4 n4 c4,.slice E4 k4 f4]) (by simp [results,results79,go_sem,r0,o,r2]) rfl ?_;exact HG.o
theorem Qh {q:Int}(hp:xz p)(hq:xz q):Calls prog 79 #[.int .i64 p,.int .i64 q] w (oD w (uL p q)):=by
 by_cases h0:q=0
 ·subst h0;exact Qf hp
 ·exact Qg hp hq h0
theorem xu:si y4 where
 below h hb:=h.below hb
 offg h hk hcs ho:=⟨⟨h.1.1,Xj h.1.2 hk hcs ho⟩,Xj h.2 hk hcs ho⟩
abbrev sh (w:World)(A:ze)(n c:Nat)(xs:List Rat):Prop:=zY y4 w A n c xs
theorem sh.keep {w':World}(h:sh w A n c xs)(hb:Below w.heap.size w w'):sh w' A n c xs:=zY.below xu h hb
theorem sh.get {wr:World}(h:sh w A n c xs)(hb:Below w.heap.size w wr){i:Nat}(hi:i<n):∃(ad:Addr) (b:Bool) (B:ze) (m d:Nat) (F:ze) (u v:Nat),A=some ad/\ad.block<w.heap.size/\wr.cell? (ad.add (i*3))=some (.bool b)/\wr.cell? ⟨(ad.add (i*3)).block,(ad.add (i*3)).off+1,none⟩=some (.slice B m d)/\wr.cell? ⟨(ad.add (i*3)).block,(ad.add (i*3)).off+2,none⟩=some (.slice F u v)/\y4 wr (xs.getD i 0) b B m d F u v:=by
 obtain⟨ad,b,B,m,d,F,u,v,e,h0,h1,h2,h3,h4⟩:=h.at_ hi 0;exact⟨ad,b,B,m,d,F,u,v,e,h0,zt hb h1,zt hb (fE h2),zt hb (Uz h3),h4.below hb⟩
def Zx (w:World)(n:Nat)(xs:List Rat)(e:Ending)(w':World):Prop:=∃(A:ze) (c:Nat),e=.returned (.slice A n c)/\sh w' A n c xs/\Below w.heap.size w w'
theorem UK:(prog.info? 49).map (λi=>(i.zero,i.size,i.bytes))=some (some (.agg #[.bool false,.slice none 0 0,.slice none 0 0]),3,56):=zP
def oW (lo:Nat):El Rat:=λw x b A n c F k f=>y4 w x b A n c F k f/\(∀ad,A=some ad->lo<=ad.block)/\∀ad,F=some ad->lo<=ad.block
theorem cS (lo:Nat):si (oW lo):=⟨λh hb=>⟨xu.below h.1 hb,h.2⟩,λh hk a ho=>⟨xu.offg h.1 hk a ho,h.2⟩⟩
theorem jk {α:Type}{E E':El α}{xs:List α}(h:zY E w A n c xs)(hR:∀{x:α} {b:Bool} {A:ze} {n c:Nat} {F:ze} {k f:Nat},E w x b A n c F k f->E' w x b A n c F k f):zY E' w A n c xs:=
 ⟨h.len,h.fits,h.most,λi x hi=>by
  obtain⟨ad,b,B,m,d,F,u,v,e,h1,h2,h3,h4,h5⟩:=h.num i x hi;exact⟨ad,b,B,m,d,F,u,v,e,h1,h2,h3,h4,hR h5⟩⟩
def VI (w:World)(n:Nat)(xs:List Rat)(e:Ending)(w':World):Prop:=∃(A:ze) (c:Nat),e=.returned (.slice A n c)/\zY (oW w.heap.size) w' A n c xs/\(∀ad,A=some ad->w.heap.size<=ad.block/\ad.block<w'.heap.size)/\Below w.heap.size w w'
theorem TG (h:vB w A n c L):
  Calls prog 31 #[.slice A n c] w (VI w n (xx L)):=by
 obtain⟨ae,ac,T,U,V⟩:=info_parts UK;have hn0:n<=1048576:=qL h.fits h.small;have HL:=za h.len;have HG:zd (∀k,k<n->xz (L.getD k (0,0)).1/\xz (L.getD k (0,0)).2/\∃ad,A=some ad/\ad.block<w.heap.size/\w.cell? (ad.add (k*2))=some (.int .i64 (L.getD k (0,0)).1)/\w.cell? (ad.add (k*2+1))=some (.int .i64 (L.getD k (0,0)).2)):=λk hk=>by
  have hl:=h.len;have e:L[k]?=some (L.getD k (0,0)):=by rw [qQ,qX zb];rfl
  obtain⟨h1,h2⟩:=h.ints _ (QJ e);exact⟨h1,h2,h.row k _ e⟩
 have HS:zd (∀k,k<n->xx (L.take (k+1))=xx (L.take k)++[uL (L.getD k (0,0)).1 (L.getD k (0,0)).2]):=λk hk=>by
  have hl:=h.len;unfold xx;rw [qE zb,YX,qQ,qX zb];rfl
 unfold VI;clear h;have hB:=qZ w.heap.size w;go_enter func31,ntmps31;go_wp2_with fail
 go_loopg [3,4] (n+1) (λg sl ix wr=>∃(k:Nat) (v:Value) (vs:List Value),k<=n/\n<g+k/\ix=.int .i64 k/\v=sl/\wH (oW w.heap.size) wr w.heap.size 49 v (xx (L.take k)) vs/\Below w.heap.size w wr)
 case atStart=>exact⟨0,_,_,qN _,zb,rfl,rfl,wH.nil _ _ _,hB⟩
 case round=>
  clear hB;obtain⟨k,v,vs,hkn,hg,rfl,rfl,a,hB⟩:=hrel;by_cases hlt:k<n
  ·obtain⟨j,m,ad,rfl,hadb,B,C⟩:=HG.o k hlt;have I:=za (HS.o k hlt);obtain⟨q,hq⟩:∃q,L.getD k (0,0)=q:=⟨_,rfl⟩;rw [hq] at j m B C I;obtain⟨q1,q2⟩:=q;dsimp only at j m B C I;have N:zd (∀w',Below w.heap.size w w'->w'.cell? (ad.add (k*2))=some (.int .i64 q1)/\w'.cell? ⟨(ad.add (k*2)).block,(ad.add (k*2)).off+1,none⟩=some (.int .i64 q2)):=λw' hb=>⟨zt hb B,fE (zt hb C)⟩;have ab:decide ((k:Int)<(n:Int))=true:=decide_eq_true zb;have i1:(0:Int)<=(k:Int):=zb;have i2:(k:Int)<(n:Int):=zb;have J:=(qZ wr.heap.size wr).drew;have z:=za (wH.below (cS _) a J);have HB:=za (zc hB J);have Y:=za j;have Z:=za m;have s:(xx (L.take k)).length=k:=by rw [mV,qB,HL.o];omega
   have O:=za s;obtain⟨c0,c1⟩:=N.o _ hB;clear a j m hq s J B C hB;go_wp2_with fail;refine rg (zl c0 (zl c1 zJ)) (λhHeld=>?_);clear c0 c1;generalize wr.drew=D at*;refine tk 0 ?_;refine tk 1 ?_;refine tk 2 ?_;refine tk 3 ?_;refine tk 4 ?_;refine tk 5 ?_;refine tk 6 ?_;refine tk 7 ?_;refine tk 8 ?_;refine tk 9 ?_;refine tk 10 ?_;refine rc 11 (λKK hK=>?_);go_simp;(with_reducible refine(Qh Y.o Z.o).mono ?_);rintro e w5 ⟨b5,B5,m5,d5,E5,u5,f5,rfl,S,Q,R,hb⟩;refine hK.out _ _ (Cs.below hHeld hb) (λhHeld=>?_);clear hK KK;obtain⟨t1,t2,-⟩:=zw w5 49 #[.bool b5,.slice B5 m5 d5,.slice E5 u5 f5];have K:=zc hb t1;have a:=wH.below (cS _) z.o K;have HX:=za (show oW w.heap.size _ _ _ _ _ _ _ _ _ from⟨S.below t1,Q.from_ HB.o,R.from_ HB.o⟩);have HB:=za (zc HB.o K);have o:=za (Xp t2);have H:=za HB.o.size;have u:=a.own;rw [O.o] at u;have G:=za u;have E:=za a.nou;have P:=za (λr (h:v.ownBlock=some r)=>a.own.lt r h);have z:=za a;have i:=Cs.below hHeld t1;clear hb K S Q R a t1 t2 u;refine rc 12 (λKK hK=>?_);go_simp;refine hK.out _ _ i (λhHeld=>?_);clear hK KK i;refine rc 13 (λKK hK=>?_);refine TN _ (.tmp 11) (.tmp 23) 79 rfl w.heap.size 49 ae (.agg #[.bool false,.slice none 0 0,.slice none 0 0]) 3 56 underlying79 ac T U V rfl zg v k vs rfl G.o ⟨w5.heap.size,0,none⟩ 1 1 [.bool b5,.slice B5 m5 d5,.slice E5 u5 f5] rfl rfl o.o (Ue _ _ _ _ _ _ _) (by unfold maxLen;omega) zb H.o E.o WW (VF _ _ _ _ _ _ _) ?_;intro v' w8 y d aa t;have F:=za (wH.grow (n:=k+1) (cS _) z.o HX.o y (by rw [O.o]) d t);have M:=za (HB.o.grown d H.o (λr hr=>(P.o r hr).1));obtain⟨c0,c1⟩:=N.o _ M.o;refine hK.out _ _ (zl c0 (zl c1 zJ)) (λhHeld=>?_);clear hK KK c0 c1 y d aa t;refine tk 14 ?_;refine zT ?_;clear hHeld z HX HB o H G E P;rw [<-I.o] at F;go_wp2;go_roundg (n - k)
   case measure=>omega
   case rel=>exact⟨k+1,_,_,zb,zb,by go_num,rfl,F.o,M.o⟩
  ·have ab:decide ((k:Int)<(n:Int))=false:=decide_eq_false zb;have hk:k=n:=zb;subst hk;rw [qU (by rw [HL.o];exact qY _)] at a;have s:(xx L).length=k:=by rw [mV];exact HL.o
   obtain⟨A1,c1,rfl,hv,hf⟩:=a.shape;have HF:=za (λad (e9:A1=some ad)=>a.own.lt ad.block (by subst e9;rfl));rw [s] at hv⊢;have HV:=za hv;have X:=za hB;clear a hv hB s hf;go_wp2;go_ret;exact⟨A1,c1,rfl,HV.o,HF.o,X.o⟩
theorem Vj (h:vB w A n c L):
  Calls prog 31 #[.slice A n c] w (Zx w n (xx L)):=
 (TG h).mono λ_ _ ⟨A1,c1,e,h1,_,h3⟩=>⟨A1,c1,e,jk h1 (λh=>h.1),h3⟩
section
variable {α:Type}{E:El α}
theorem mr {xs:List α}(h:zY E w A n c xs)(hk:zh w g t cs)(hs:∀u ∈ cs.toList,∀b,u≠.bool b):0<n->∀ad,A=some ad->ad.block≠g:=λhn a e0 hg=>by
 have hl:=h.len;have h0:0<xs.length:=zb;obtain⟨ad,b,B,m,d,F,u,v,e,h1,h2,h3,h4,h5⟩:=h.num 0 _ (qX h0);obtain rfl:a=ad:=by rw [e0] at e;injection e
 have hb:(a.add (0*3)).block=g:=by rw [y8];exact hg
 generalize a.add (0*3)=q at hb h2;obtain⟨bk,off,pr⟩:=q;simp only at hb;subst hb;unfold zh at hk;cases pr with
 |none=>
   rw [show w.cell? ⟨bk,off,none⟩=cs[off]? from cell_of_row w bk off _ t (0,0) hk,<-QM] at h2;exact hs _ (QJ h2) b rfl
 |some q=>simp [World.cell?,hk] at h2
theorem dH {xs:List α}(h:zY E w A n c xs)(hk:zh w g t cs)(hs:∀u ∈ cs.toList,∀b,u≠.bool b)(ho:ya g w w')
  (hE:∀{x:α} {b:Bool} {A:ze} {n c:Nat} {F:ze} {k f:Nat},E w x b A n c F k f->E w' x b A n c F k f):zY E w' A n c xs:=by
 have a:=mr h hk hs;refine⟨h.len,h.fits,h.most,λi x hi=>?_⟩;have hl:=h.len;have hlt:=(List.getElem?_eq_some_iff.1 hi).1;obtain⟨ad,b,B,m,d,F,u,v,e,h1,h2,h3,h4,h5⟩:=h.num i x hi;have hc:∀j,w'.cell? (ad.add j)=w.cell? (ad.add j):=λj=>ho.2 _ (by rw [y8];exact h1) (by rw [y8];exact a zb ad e);exact⟨ad,b,B,m,d,F,u,v,e,qJ h1 ho.1,(hc _).trans h2,(hc _).trans h3,(hc _).trans h4,hE h5⟩
theorem Py (hs:∀u ∈ cs.toList,yp u):∀u ∈ cs.toList,∀b,u≠.bool b:=λu hu b e=>by
 obtain⟨A,n,c,e2⟩:=hs u hu;rw [e2] at e;cases e
theorem jn (hs:∀u ∈ cs.toList,yp u):yf cs:=λq hq k z e9=>by
 obtain⟨A9,n9,c9,e8⟩:=hs q hq;rw [e8] at e9;cases e9
theorem Zh (hE:si E){w w':World}{A:ze}{n c g:Nat}{xs:List α}{t:TypeId}{cs:Array Value}(h:zY E w A n c xs)(hk:zh w g t cs)(hs:∀u ∈ cs.toList,yp u)(ho:ya g w w'):zY E w' A n c xs:=
 dH h hk (Py hs) ho (λh5=>hE.offg h5 hk (jn hs) ho)
end
abbrev RP (α:Type):=World->ze->Nat->Nat->List α->Prop
structure ur {α:Type}(R:RP α):Prop where
 len:∀{w:World} {A:ze} {n c:Nat} {xs:List α},R w A n c xs->xs.length=n
 below:∀{w w':World} {A:ze} {n c:Nat} {xs:List α},R w A n c xs->Below w.heap.size w w'->R w' A n c xs
 offS:∀{w w':World} {A:ze} {n c g:Nat} {xs:List α} {t:TypeId} {cs:Array Value},R w A n c xs->zh w g t cs->(∀u ∈ cs.toList,yp u)->ya g w w'->R w' A n c xs
 nil:∀w:World,R w none 0 0 []
theorem zN {α:Type}{E:El α}(hE:si E):ur (zY E):=⟨λh=>h.len,λh hb=>h.below hE hb,λh hk hs ho=>Zh hE h hk hs ho,λw=>zY.nil w⟩
theorem ur.grown {α:Type}{R:RP α}(hR:ur R){w w':World}{v:Value}{A:ze}{n c:Nat}{xs:List α}(h:R w A n c xs)(hg:w.grownBy w' v.ownBlock)(hn:wu w v):R w' A n c xs:=by
 cases hv:v.ownBlock with
 |none=>rw [hv] at hg;exact hR.below h (lP hg)
 |some g=>
   rw [hv] at hg;obtain⟨t,cs,hk,hc⟩:=hn.blk hv;exact hR.offS h hk hc (ya.of_grown hg)
section
variable {α:Type}{R:RP α}
structure y5 (R:RP α)(w:World)(A:ze)(n:Nat)(Ls:List (List α)):Prop where
 len:Ls.length=n
 num:∀i L,Ls[i]?=some L->∃(ad:Addr) (B:ze) (d:Nat),A=some ad/\ad.block<w.heap.size/\w.cell? (ad.add i)=some (.slice B L.length d)/\R w B L.length d L
theorem y5.below (hR:ur R){w w':World}{A:ze}{n:Nat}{Ls:List (List α)}(h:y5 R w A n Ls)(hb:Below w.heap.size w w'):y5 R w' A n Ls:=
 ⟨h.len,λi L hi=>by
  obtain⟨ad,B,d,e,h1,h2,h3⟩:=h.num i L hi;exact⟨ad,B,d,e,qJ h1 hb.size,zt hb h2,hR.below h3 hb⟩⟩
theorem y5.nil (w:World)(A:ze):y5 R w A 0 []:=⟨rfl,λi L hi=>by simp at hi⟩
theorem y5.get (hR:ur R){w wr:World}{A:ze}{n m:Nat}{Ls:List (List α)}(h:y5 R w A n Ls)(hb:Below w.heap.size w wr){i:Nat}(hi:i<n)(hm:(Ls.getD i []).length=m):∃(ad:Addr) (B:ze) (d:Nat),A=some ad/\ad.block<w.heap.size/\wr.cell? (ad.add i)=some (.slice B m d)/\R wr B m d (Ls.getD i []):=by
 have hl:=h.len;obtain⟨ad,B,d,e,h1,h2,h3⟩:=h.num i _ (vY (d:=[]) zb);rw [hm] at h2 h3;exact⟨ad,B,d,e,h1,zt hb h2,hR.below h3 hb⟩
theorem y5.off {Ls:List (List α)}(h:y5 R w A n Ls)(hf:∀ad,A=some ad->ad.block≠g)(ho:ya g w w')(a:∀{B:ze} {m d:Nat} {L:List α},R w B m d L->R w' B m d L):y5 R w' A n Ls:=
 ⟨h.len,λi L hi=>by
  obtain⟨ad,B,d,e,h1,h2,h3⟩:=h.num i L hi;exact⟨ad,B,d,e,qJ h1 ho.1,(ho.2 _ (by rw [y8];exact h1) (by rw [y8];exact hf ad e)).trans h2,a h3⟩⟩
structure xj (R:RP α)(w:World)(t:TypeId)(g n:Nat)(Ls:List (List α)):Prop where
 len:Ls.length=n
 blk:∃cs:Array Value,zh w g t cs/\(∀u ∈ cs.toList,yp u)/\cs.size=n
 num:∀i L,Ls[i]?=some L->∃(B:ze) (d:Nat),w.cell? ⟨g,i,none⟩=some (.slice B L.length d)/\R w B L.length d L
theorem xj.lt {t:TypeId}{Ls:List (List α)}(h:xj R w t g n Ls):g<w.heap.size:=by
 obtain⟨cs,hk,_⟩:=h.blk;exact hk.lt
theorem xj.below (hR:ur R){w w':World}{t:TypeId}{g n:Nat}{Ls:List (List α)}(h:xj R w t g n Ls)(hb:Below w.heap.size w w'):xj R w' t g n Ls:=by
 refine⟨h.len,?_,λi x hi=>?_⟩
 ·obtain⟨cs,hk,h1,h2⟩:=h.blk;exact⟨cs,zf hb hk,h1,h2⟩
 ·obtain⟨B,d,h1,h2⟩:=h.num i x hi;exact⟨B,d,zt hb h1,hR.below h2 hb⟩
theorem xj.rows {Ls:List (List α)}(h:xj R w t g n Ls):y5 R w (some ⟨g,0,none⟩) n Ls:=
 ⟨h.len,λi x hi=>by
  obtain⟨B,d,h1,h2⟩:=h.num i x hi;exact⟨_,B,d,rfl,h.lt,by rw [vz];exact h1,h2⟩⟩
theorem xj.ready {Ls:List (List α)}(h:xj R w t g n Ls){i:Nat}(hi:i<n):∃a:Value,w.cell? ⟨g,i,none⟩=some a/\w.frozen? ⟨g,i,none⟩=false:=by
 obtain⟨cs,hk,h1,h2⟩:=h.blk;have e0:i<cs.size:=zb;exact⟨_,(hk.cell _).trans (QZ e0),hk.frozen _⟩
theorem xj.set_ (hR:ur R){w:World}{t:TypeId}{g n m:Nat}{Ls:List (List α)}(h:xj R w t g n Ls){i:Nat}(hi:i<n){L:List α}{B:ze}{d:Nat}(hx:R w B m d L)(hm:L.length=m):
  xj R (w.setCell ⟨g,i,none⟩ (.slice B m d)) t g n (Ls.set i L):=by
 subst hm;obtain⟨cs,hk,h1,h2⟩:=h.blk;have ho:ya g w (w.setCell ⟨g,i,none⟩ (.slice B L.length d)):=ya.of_far ((z4.refl g w).set_ i _);have a:=hk.set_ i (.slice B L.length d);refine⟨by rw [xB];exact h.len,⟨_,a,?_,by simp;exact h2⟩,λj y hj=>?_⟩
 ·intro u hu;rw [xH] at hu;rcases XQ hu with hu|rfl
  ·exact h1 u hu
  ·exact⟨_,_,_,rfl⟩
 ·by_cases hij:i=j
  ·subst hij;have hl:=h.len;rw [XR zb] at hj;injection hj with hj;subst hj;refine⟨B,d,?_,hR.offS hx hk h1 ho⟩;rw [a.cell,QI zb]
  ·rw [XL hij] at hj;obtain⟨B',d',c1,c2⟩:=h.num j y hj;refine⟨B',d',?_,hR.offS c2 hk h1 ho⟩;rw [a.cell,qR zb,<-hk.cell];exact c1
def kz:Array Value:=#[.slice none 0 0]
theorem p8 (n:Nat):∀u ∈(madeCells kz n).toList,yp u:=by
 intro v hv;rw [yT,Array.mem_iff_getElem?] at hv;obtain⟨j,hj⟩:=hv;have a:j<n:=by
  have:=(Array.getElem?_eq_some_iff.1 hj).1;rwa [size_madeCells] at this
 rw [lU _ _ _ a,show kz.size=1 from rfl,xT] at hj;simp [kz] at hj;exact⟨_,_,_,hj.symm⟩
theorem xj.made (hR:ur R)(w:World)(t:TypeId)(n:Nat):xj R (w.alloc (.cells (madeCells kz n) t)) t w.heap.size n (List.replicate n []):=by
 have hk:=zh.new w t (madeCells kz n);refine⟨zE,⟨_,hk,p8 _,size_madeCells _ _⟩,λi x hi=>?_⟩;have a:i<n:=by
  have:=(List.getElem?_eq_some_iff.1 hi).1;simpa using this
 obtain rfl:[]=x:=by
  rw [List.getElem?_replicate,if_pos a] at hi;injection hi
 refine⟨none,0,?_,hR.nil _⟩;rw [hk.cell,lU _ _ _ a,show kz.size=1 from rfl,xT];rfl
structure yk (R:RP α)(w:World)(base:Nat)(t:TypeId)(v:Value)(Ls:List (List α))(vs:List Value):Prop where
 own:w.ownsRow base t 1 v Ls.length vs
 sl:wu w v
 num:∀(i:Nat) (L:List α),Ls[i]?=some L->∃(B:ze) (d:Nat),vs[i]?=some (Value.slice B L.length d)/\R w B L.length d L
theorem yk.nil (w:World)(a:Nat)(t:TypeId):yk R w a t (.slice none 0 0) [] []:=⟨xK _ _ _ _,wu.nil _ _,λi L hi=>by simp at hi⟩
theorem yk.len {Ls:List (List α)}(h:yk R w a t v Ls vs):vs.length=Ls.length:=by have:=h.own.1;omega
theorem yk.shape {n:Nat}{Ls:List (List α)}(h:yk R w a t v Ls vs)(hn:Ls.length=n):∃A c,v=.slice A n c/\n<=c/\c<=9223372036854775807/\y5 R w A n Ls/\∀ad,A=some ad->a<=ad.block:=by
 subst hn;rcases h.own.2 with⟨rfl,h0⟩|⟨g,cap,cur,rfl,hbg,hg,hnc,hcm,hcs,htake⟩
 ·have hx:Ls=[]:=QY h0;subst hx;exact⟨none,0,rfl,qY _,zg,y5.nil w none,λad e=>by cases e⟩
 ·have j:=h.own.cells (g:=g) rfl;refine⟨some ⟨g,0,none⟩,cap,rfl,hnc,by unfold maxLen at hcm;omega,⟨rfl,λi L hi=>?_⟩,λad e=>by injection e with e;subst e;exact hbg⟩;obtain⟨B,d,hv,hw⟩:=h.num i L hi;exact⟨_,B,d,rfl,(Array.getElem?_eq_some_iff.1 hg).1,j _ _ hv,hw⟩
theorem yk.below (hR:ur R){w w':World}{a:Nat}{t:TypeId}{v:Value}{Ls:List (List α)}{vs:List Value}(h:yk R w a t v Ls vs)(hb:Below w.heap.size w w'):yk R w' a t v Ls vs:=by
 refine⟨⟨h.own.1,?_⟩,h.sl.below hb,λi L hi=>?_⟩
 ·rcases h.own.2 with h1|⟨g,cap,cur,e1,e2,e3,e4⟩
  ·exact .inl h1
  ·exact .inr ⟨g,cap,cur,e1,e2,(hb.block g (zh.lt (t:=t) (cs:=cur) e3)).trans e3,e4⟩
 ·obtain⟨B,d,hv,hw⟩:=h.num i L hi;exact⟨B,d,hv,hR.below hw hb⟩
theorem yk.grow (hR:ur R){w w':World}{a n m:Nat}{t:TypeId}{v v':Value}{Ls:List (List α)}{vs:List Value}{L:List α}{B:ze}{d:Nat}(h:yk R w a t v Ls vs)(hx:R w B m d L)(hm:L.length=m)
  (ho:w'.ownsRow a t 1 v' n (vs++[.slice B m d])) (hn:n=Ls.length+1) (hg:w.grownBy w' v.ownBlock) (hs:wu w' v'):yk R w' a t v' (Ls++[L]) (vs++[.slice B m d]):=by
 subst hm;have hl:=h.len;refine⟨by rw [QV,yM,<-hn];exact ho,hs,λi M hi=>?_⟩;by_cases hlt:i<Ls.length
 ·rw [QR hlt] at hi;obtain⟨C,e,hv,hw⟩:=h.num i M hi;exact⟨C,e,by rw [QR zb];exact hv,hR.grown hw hg h.sl⟩
 ·rw [QK zb] at hi;have c:i=Ls.length:=by
   have:=(List.getElem?_eq_some_iff.1 hi).1;simp at this;omega
  subst c;obtain rfl:L=M:=by
   rw [yJ] at hi;injection hi
  exact⟨B,d,by rw [QK zb,hl,yJ];rfl,hR.grown hx hg h.sl⟩
theorem eD (hR:ur R){w:World}{g:Nat}{t:TypeId}{A B:ze}{n m c d:Nat}{xs ys:List α}(h:zh w g t #[.slice A n c,.slice B m d])(h1:R w A n c xs)(h2:R w B m d ys):y5 R w (some ⟨g,0,none⟩) 2 [xs,ys]:=by
 refine⟨rfl,λi L hi=>?_⟩;have a:=hR.len h1;have j:=hR.len h2
 match i,hi with
 |0,hi=>
   obtain rfl:xs=L:=by simpa using hi
   rw [a];exact⟨_,A,c,rfl,h.lt,by rw [vz];exact h.cell 0,h1⟩
 |1,hi=>
   obtain rfl:ys=L:=by simpa using hi
   rw [j];exact⟨_,B,d,rfl,h.lt,by rw [vz];exact h.cell 1,h2⟩
 |i+2,hi=>simp at hi
end
theorem bU (n:Nat)(hn:n<=1099511627776):∃Z:Array Value,∀W:World,(Instr.makeSlice 26 (.int .i64 (n:Int)) (.int .i64 (n:Int))).run prog W=.ok (.slice (some ⟨W.heap.size,0,none⟩) n n) (W.alloc (.cells Z 64))/\xj (zY zo) (W.alloc (.cells Z 64)) 64 W.heap.size n (List.replicate n []):=by
 obtain⟨i0,a,c,d,g⟩:=info_parts jK;refine⟨madeCells kz n,λW=>⟨?_,xj.made (zN zS) W _ n⟩⟩;have h:=tH (P:=prog) _ _ i0 _ underlying26 a c .i64 .i64 n n (qY _) (by rw [g];omega) zb W;rw [d,xC] at h;exact h
theorem mP {P:Program}(w:World){o:Oper}{a:Act}{K:Act->World->Prop}{Q:Exit->Act->World->Prop}(s x:Operand)(t:TypeId)
  (ho:o.op=.call {callee:=.builtin .append,args:=#[s,x],argTypes:=#[t,t]})
  (g:Nat) (e:TypeId) (i:TypeInfo) (z:Value) (size bytes:Nat) (ht:P.underlying t=some (.slice e)) (hi:P.info? e=some i) (hz:i.zero=some z)
  (B:i.size=size) (E:i.bytes=bytes) (H:z.cells.size=size) (hsz:0<size)
  (v:Value) (n:Nat) (xs:List Value) (hs:a.eval s=v) (C:w.ownsRow g e size v n xs)
  (ad:Addr) (m c:Nat) (d:List Value) (hx:a.eval x=.slice (some ad) m c) (hl:d.length=m*size) (A:∀j u,d[j]?=some u->w.cell? (ad.add j)=some u) (h1:∀u ∈ d,u.oneCell'=true)
  (D:n+m<=maxLen) (k:(n+m)*bytes<=140737488355328) (y:g<=w.heap.size)
  (hv:wu w v) (G:∀u ∈ z.cells.toList,yp u) (F:∀u ∈ d,yp u)
  (h:∀v' w',w'.ownsRow g e size v' (n+m) (xs++d)->w.grownBy w' v.ownBlock->(v'.ownBlock=v.ownBlock\/v'.ownBlock=some w.heap.size)->wu w' v'->K (a.put o.dst v') w'):Oper.wp P o a w K Q:=by
 obtain⟨v',w',hr,h2,h3,h4,h5⟩:=Yg (P:=P) w g t o.type e i z size bytes ht hi hz B E H hsz v n xs C ad m c d hl A h1 D k y hv G F;unfold Oper.wp execOp;simp only [ho,resolve,invoke,builtin,Sem.run_bind,Sem.run_pure,Result.andThen_ok,yI,yX,List.map_nil,hs,hx,hr];exact h v' w' h2 h3 h4 h5
