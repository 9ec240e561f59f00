/- What this claim leans on. -/
import Derived.Test.YtipmllfnpldbdaaGreatDoorFVPair
set_option linter.unusedVariables false
set_option linter.unusedSimpArgs false
namespace Go.Proofs.YtipmllfnpldbdaaGreatDoor
open Go Go.RowKit Go.Proofs.Tryz
set_option maxHeartbeats 16000000
set_option maxRecDepth 100000
variable {xs:List Rat}{c n:Nat}{M:Nat->Prop}{w:World}{T:World->Prop}{A:zf}
theorem mE (p:Int)(w:World)(hT:zu w)(g: -9223372036854775808<=p)(h:p<=9223372036854775807):
  Calls prog 36 #[.int .i64 p] w (yc w (p:Rat)):=by
 have j:=zd (xx (T:=zu));have HT:=zm w (λw' hb=>hT.on hb);have HTB:=HT;obtain⟨K,t⟩:∃K,67108864=K:=⟨_,rfl⟩;have hKK:K<=67108864:=za;have hK0:0<K:=za;clear hT t;go_enter func36,ntmps36;have hB:=qY w.heap.size w;obtain⟨a,d,bz⟩:=zF w 60 #[.bool false,.slice none 0 0,.slice none 0 0];have hB:=ze hB a;have k1:=d;clear a d bz;go_wp2_with fail;generalize w.alloc (.cells #[.bool false,.slice none 0 0,.slice none 0 0] 60)=W1 at*;have HZ2:zg (Sz (1) (p).natAbs):=(by show Int.natAbs p<18446744073709551616^1;have e1: -9223372036854775808<=p:=g;have e2:p<=9223372036854775807:=h;omega);(with_reducible refine(j.o.of p _ (HT.o _ hB) g h).mono ?_);rintro e wc2 ⟨b2,B2,m2,d2,rfl,i,hb⟩;have hB:=ze hB hb;have k1:=zj hb k1;have m:=zd i;clear hb i;obtain⟨sc0,sf0,sc1,sf1,sc2,sf2⟩:=yg k1 (.bool b2) (.slice B2 m2 d2);obtain⟨r0,r1,r2⟩:=(yf k1 (.bool b2) (.slice B2 m2 d2) (.slice none 0 0)).c3;have HG:=zd (xu (im m.o) k1 hB za);go_wp2;refine bodyPost_ret (v:=.agg #[.bool b2,.slice B2 m2 d2,.slice none 0 0]) (by simp [results,results36,go_sem,r0,r1,r2]) rfl ?_;exact HG.o
theorem Zc (v:Value)(A B:zf)(n m c d:Nat)(w:World)(h:n≠m):
  Calls prog 62 #[.slice A n c,.slice B m d,v] w (iy w):=by
 unfold iy;have hd0:((n:Int) !=(m:Int))=true:=by rw [bne_iff_ne];omega
 clear h;go_enter func62,ntmps62;go_wp2
 go_ret2
 exact⟨rfl,qY _ _⟩
section
variable {K K':Nat}{xs ys:List Rat}{A B:zf}{n c d:Nat}{w:World}
theorem pF (hT:zu w)(ha:zy w A n c xs)(hb:zy w B n d ys)(hx:zH K xs)(hy:zH K' ys)(hn:n<=1073741824:=by omega)(hK:K<=67108864:=by omega)(a:K'<=67108864:=by omega):
  Calls prog 72 #[.slice A n c,.slice B n d] w (nE w n (ni xs ys)):=by
 have hla:=ha.len;have hlb:=hb.len;have H:=zd (fM (λx y=>x - y) 40 #[] xs ys A B n c d w ha hb hn oU (λi hi w' h b b' A A' n n' c c' E E' k k' f f' h1 h2=>by
  rw [Array.append_empty];exact og (hT.on h) h1 h2 (hx.at_ za) (hy.at_ za) hK a))
 clear ha hb hx hy hT;go_enter func72,ntmps72;go_wp2_with fail;refine H.o.mono ?_;rintro e w1 ⟨g,rfl,h1,h2,h3⟩;have HG:=zd (And.intro h1 (And.intro h2 h3));clear h1 h2 h3;go_wp2
 go_ret2
 exact⟨g,rfl,HG.o⟩
end
theorem jA (a:∀w,T w->zu w)(h0:M 0->pW T)(h1:M 1->pX T)(h2:M 2->pY T):oJ T M where
 g0:=h0
 g1:=h1
 g2:=h2
 new p q b b' A D n m c d w hT hA hD hn hm h0:=cR p q b A n c b' D m d w (a w hT) hA hD hn hm h0
 newNo p q b b' A D n m c d w hT hA hD hn hm h0:=ek p q b A n c b' D m d w (a w hT) hA hD hn hm h0
 of p q w hT h1 h2 h3 h4 h0:=si p q w (a w hT) h1 h2 h3 h4 h0
 ofNo p q w hT h1 h2 h0:=Wn p q w (a w hT) h1 h2 za za h0
 num r b A n c E k f w hT h hf:=pg r b A n c E k f w (a w hT) h hf
 den r b A n c E k f w hT h hf:=iK r b A n c E k f w (a w hT) h hf
 sign r b A n c E k f w hT h hf:=kX r b A n c E k f w (a w hT) h hf
 zero r b A n c E k f w hT h hf:=vn r b A n c E k f w (a w hT) h hf
 isInt r b A n c E k f w hT h hf:=rr r b A n c E k f w (a w hT) h hf
 neg r b A n c E k f w hT h hf:=cQ r b A n c E k f w (a w hT) h hf
 inv r b A n c E k f w hT h hf h0:=cO r b A n c E k f w (a w hT) h hf h0
 invNo r b A n c E k f w hT h hf h0:=Ym r b A n c E k f w (a w hT) h hf h0
 add r s b b' A A' n n' c c' E E' k k' f f' w hT h h' hf hf':=jf r s b A n c E k f b' A' n' c' E' k' f' w (a w hT) h h' hf hf'
 sub r s b b' A A' n n' c c' E E' k k' f f' w hT h h' hf hf':=cS r s b A n c E k f b' A' n' c' E' k' f' w (a w hT) h h' hf hf'
 cmp r s b b' A A' n n' c c' E E' k k' f f' w hT h h' hf hf':=cM r s b A n c E k f b' A' n' c' E' k' f' w (a w hT) h h' hf hf'
 same r s b b' A A' n n' c c' E E' k k' f f' w hT h h' hf hf':=dG r s b A n c E k f b' A' n' c' E' k' f' w (a w hT) h h' hf hf'
theorem Yt:sP vY where
 below h hb:=h.below hb
 offg h hk hcs ho:=⟨⟨h.1.1,fV h.1.2 hk hcs ho⟩,fV h.2 hk hcs ho⟩
abbrev lT (w:World)(A:zf)(n c:Nat)(xs:List Rat):Prop:=yh vY w A n c xs
theorem lT.keep {w':World}(h:lT w A n c xs)(hb:Below w.heap.size w w'):lT w' A n c xs:=yh.below Yt h hb
theorem lT.get {wr:World}(h:lT w A n c xs)(hb:Below w.heap.size w wr){i:Nat}(hi:i<n):∃(ad:Addr) (b:Bool) (B:zf) (m d:Nat) (F:zf) (u v:Nat),A=some ad/\ad.block<w.heap.size/\wr.cell? (ad.add (i*3))=some (.bool b)/\wr.cell? ⟨(ad.add (i*3)).block,(ad.add (i*3)).off+1,none⟩=some (.slice B m d)/\wr.cell? ⟨(ad.add (i*3)).block,(ad.add (i*3)).off+2,none⟩=some (.slice F u v)/\vY wr (xs.getD i 0) b B m d F u v:=by
 obtain⟨ad,b,B,m,d,F,u,v,e,h0,h1,h2,h3,h4⟩:=h.at_ hi 0;exact⟨ad,b,B,m,d,F,u,v,e,h0,zq hb h1,zq hb (ug h2),zq hb (sW h3),h4.below hb⟩
theorem bN (P:∀w w',T w->Below w.heap.size w w'->T w')(IC:oI T)(QC:oJ T M)(p q:Int)(r:Rat)(K:Nat)(bx:Bool)(Bx:zf)(mx dx:Nat)(Ex:zf)(ux vx:Nat)(w:World)(hK:K<=16777216)(hz:zp K r)(h:zt w r bx Bx mx dx Ex ux vx)(hT:T w)(D: -9223372036854775808<=p)(E:p<=9223372036854775807)(F: -9223372036854775808<=q)(G:q<=9223372036854775807)(Q:q≠0)(he:r=Rat.divInt p q):
  Calls prog 16 #[.agg #[.bool bx,.slice Bx mx dx,.slice Ex ux vx],.int .i64 p,.int .i64 q] w λe w'=>e=.returned (.bool true)/\Below w.heap.size w w':=by
 have I:=zd IC;have v:=zd QC;have HT:=zm w (λw' hb=>P w w' hT hb);have HE:=zd he;have A:=zd hz;have i:=zd h;clear IC QC hT he hz h;go_enter func16,ntmps16;have hB:=qY w.heap.size w;obtain⟨j,B,bz⟩:=zF w 60 #[.bool bx,.slice Bx mx dx,.slice Ex ux vx];have hB:=ze hB j;have i:=zd (i.o.below j);obtain⟨g1,e1,i1⟩:=B.c3;clear j B bz;go_wp2_with fail;generalize w.alloc (.cells #[.bool bx,.slice Bx mx dx,.slice Ex ux vx] 60)=W1 at*;have z:zg (zp (1) (Rat.divInt p q)):=zp.made (K:=1) (by show Int.natAbs p<18446744073709551616^1;have e1: -9223372036854775808<=p:=D;have e2:p<=9223372036854775807:=E;omega) (by show Int.natAbs q<18446744073709551616^1;have e1: -9223372036854775808<=q:=F;have e2:q<=9223372036854775807:=G;omega) zh;(with_reducible refine(v.o.of p q _ (HT.o _ hB) D E F G Q).mono ?_);rintro e C ⟨b2,B2,m2,d2,E2,u2,v2,rfl,H,hb⟩;have hB:=ze hB hb;have i:=zd (i.o.below hb);obtain⟨g1,e1,i1⟩:=zU hb g1 e1 i1;have t:=zd H;clear hb H;obtain⟨j,B,bz⟩:=zF C 60 #[.bool b2,.slice B2 m2 d2,.slice E2 u2 v2];have hB:=ze hB j;have i:=zd (i.o.below j);obtain⟨g1,e1,i1⟩:=zU j g1 e1 i1;have t:=zd (t.o.below j);obtain⟨g3,e3,i3⟩:=B.c3;clear j B bz;go_wp2_with fail;generalize C.alloc (.cells #[.bool b2,.slice B2 m2 d2,.slice E2 u2 v2] 60)=W3 at*;generalize C.heap.size=q3 at*;have C0:=zm W3 (λw' h=>xc (decide_eq_true HE.o) (v.o.same (r) (Rat.divInt p q) bx b2 Bx B2 mx m2 dx d2 Ex E2 ux u2 vx v2 w' (HT.o _ (ze hB h)) (i.o.below h) (t.o.below h) (z8 A i.o) (z8 z t.o)));have J:zg (Sz (K) (r.num).natAbs):=zp.num A.o;have C1:=zm W3 (λw' h=>v.o.num (r) bx Bx mx dx Ex ux vx w' (HT.o _ (ze hB h)) (i.o.below h) (z8 A i.o));have L:zg (Sz (1) ((Rat.divInt p q).num).natAbs):=zp.num z.o;have C2:=zm W3 (λw' h=>v.o.num (Rat.divInt p q) b2 B2 m2 d2 E2 u2 v2 w' (HT.o _ (ze hB h)) (t.o.below h) (z8 z t.o));have C3:=zm W3 (λw' h b4 B4 m4 d4 (d:zN w' (r.num) b4 B4 m4 d4) b5 B5 m5 d5 (g:zN w' ((Rat.divInt p q).num) b5 B5 m5 d5)=>qg (by rw [HE.o]) (I.o.cmp (r.num) ((Rat.divInt p q).num) b4 b5 B4 B5 m4 m5 d4 d5 w' (HT.o _ (ze hB h)) d g (by have:=Sz.words J.o d.words;omega) (by have:=Sz.words L.o g.words;omega)));have N:zg (Sz (K) (r.den)):=zp.den A.o;have C4:=zm W3 (λw' h=>v.o.den (r) bx Bx mx dx Ex ux vx w' (HT.o _ (ze hB h)) (i.o.below h) (z8 A i.o));have O:zg (Sz (1) ((Rat.divInt p q).den)):=zp.den z.o;have C5:=zm W3 (λw' h=>v.o.den (Rat.divInt p q) b2 B2 m2 d2 E2 u2 v2 w' (HT.o _ (ze hB h)) (t.o.below h) (z8 z t.o));have C6:=zm W3 (λw' h B6 m6 d6 (m:zo w' (r.den) B6 m6 d6) B7 m7 d7 (u:zo w' ((Rat.divInt p q).den) B7 m7 d7)=>mS (x:=r.den) (y:=(Rat.divInt p q).den) (by rw [HE.o]) m u (z7 N m) (z7 O u));have a:=(qY W3.heap.size W3).drew;refine rg (zk g1 (zk e1 (zk i1 (zk g3 (zk e3 (zk i3 zP)))))) (λhHeld=>?_);refine tk 0 ?_;refine tk 1 ?_;refine tk 2 ?_;refine tk 3 ?_;refine rc 4 (λK hK=>?_);go_simp;go_at_call 26;(with_reducible refine(C0.o _ a).mono ?_);rintro e wa4 ⟨rfl,hb⟩;have a:=ze a hb;refine hK.out _ _ (Cs.below hHeld hb) (λhHeld=>?_);clear hK K hb
 try simp only [zQ]
 refine tk 5 ?_;refine tk 6 ?_;refine tk 7 ?_;refine tk 9 ?_;refine rc 8 (λK hK=>?_);go_simp;go_at_call 50;(with_reducible refine(C1.o _ a).mono ?_);rintro e wa5 ⟨b4,B4,m4,d4,rfl,d,hb⟩;have a:=ze a hb;refine hK.out _ _ (Cs.below hHeld hb) (λhHeld=>?_);clear hK K hb
 try simp only [zQ]
 refine rc 10 (λK hK=>?_);go_simp;go_at_call 50;(with_reducible refine(C2.o _ a).mono ?_);rintro e wa6 ⟨b5,B5,m5,d5,rfl,g,hb⟩;have a:=ze a hb;have d:=d.below hb;refine hK.out _ _ (Cs.below hHeld hb) (λhHeld=>?_);clear hK K hb
 try simp only [zQ]
 refine rc 11 (λK hK=>?_);go_simp;go_at_call 49;(with_reducible refine(C3.o _ a _ _ _ _ d _ _ _ _ g).mono ?_);rintro e wa7 ⟨rfl,hb⟩;have a:=ze a hb;have d:=d.below hb;have g:=g.below hb;refine hK.out _ _ (Cs.below hHeld hb) (λhHeld=>?_);clear hK K hb
 try simp only [zQ]
 refine tk 12 ?_;refine tk 13 ?_;refine tk 14 ?_;refine tk 15 ?_;refine tk 17 ?_;refine rc 16 (λK hK=>?_);go_simp;go_at_call 52;(with_reducible refine(C4.o _ a).mono ?_);rintro e wa8 ⟨B6,m6,d6,rfl,m,hb⟩;have a:=ze a hb;have d:=d.below hb;have g:=g.below hb;refine hK.out _ _ (Cs.below hHeld hb) (λhHeld=>?_);clear hK K hb
 try simp only [zQ]
 refine rc 18 (λK hK=>?_);go_simp;go_at_call 52;(with_reducible refine(C5.o _ a).mono ?_);rintro e wa9 ⟨B7,m7,d7,rfl,u,hb⟩;have a:=ze a hb;have d:=d.below hb;have g:=g.below hb;have m:=m.below hb;refine hK.out _ _ (Cs.below hHeld hb) (λhHeld=>?_);clear hK K hb
 try simp only [zQ]
 refine rc 19 (λK hK=>?_);go_simp;go_at_call 51;(with_reducible refine(C6.o _ a _ _ _ m _ _ _ u).mono ?_);rintro e wa10 ⟨rfl,hb⟩;have a:=ze a hb;have d:=d.below hb;have g:=g.below hb;have m:=m.below hb;have u:=u.below hb;refine hK.out _ _ (Cs.below hHeld hb) (λhHeld=>?_);clear hK K hb
 try simp only [zQ]
 refine tk 20 ?_;refine tk 21 ?_;refine tk 22 ?_;refine yb ?_;have hB:=ze hB a;obtain⟨g1,e1,i1,g3,e3,i3⟩:=zM a g1 e1 i1 g3 e3 i3;clear a hHeld d g m u C0 C1 C2 C3 C4 C5 C6;go_wp2;go_ret;exact⟨by first|rfl|simp,hB⟩
