/- What this claim leans on. -/
import Derived.Test.YtipmllfnpldbdaaGreatDoorYS8Sum
set_option linter.unusedVariables false
set_option linter.unusedSimpArgs false
namespace Go.Proofs.YtipmllfnpldbdaaGreatDoor
open Go Go.RowKit Go.Proofs.Tryz
set_option maxHeartbeats 16000000
set_option maxRecDepth 100000
variable {p:Int}{xs:List Rat}{c:Nat}{w:World}{A:zf}
theorem ZW (v:Value)(A B:zf)(n m c d:Nat)(w:World)(h:n≠m):
  Calls prog 62 #[.slice A n c,.slice B m d,v] w (gH w):=by
 unfold gH;have hd0:((n:Int) !=(m:Int))=true:=by rw [bne_iff_ne];omega
 clear h;go_enter func62,ntmps62;go_wp2
 go_ret2
 exact⟨rfl,qY _ _⟩
section
variable {K K':Nat}{xs ys:List Rat}{A B:zf}{n c d:Nat}{w:World}
theorem pQ (hT:zv w)(ha:zF w A n c xs)(hb:zF w B n d ys)(hx:zI K xs)(hy:zI K' ys)(hn:n<=1073741824:=by omega)(hK:K<=67108864:=by omega)(a:K'<=67108864:=by omega):
  Calls prog 72 #[.slice A n c,.slice B n d] w (nQ w n (nG xs ys)):=by
 have hla:=ha.len;have hlb:=hb.len;have H:=zd (cH (λx y=>x - y) 40 #[] xs ys A B n c d w ha hb hn o7 (λi hi w' h b b' A A' n n' c c' E E' k k' f f' h1 h2=>by
  rw [Array.append_empty];exact ou (hT.on h) h1 h2 (hx.at_ za) (hy.at_ za) hK a))
 clear ha hb hx hy hT;go_enter func72,ntmps72;go_wp2_with fail;refine H.o.mono ?_;rintro e w1 ⟨g,rfl,h1,h2,h3⟩;have HG:=zd (And.intro h1 (And.intro h2 h3));clear h1 h2 h3;go_wp2
 go_ret2
 exact⟨g,rfl,HG.o⟩
end
theorem YI (hT:zv w)(hp:wC p):
  Calls prog 56 #[.agg #[.int .i64 p,.int .i64 0]] w (ye w (ut p 0)):=by
 rw [sv];obtain⟨j,m⟩:=hp;have HT:=zn w (λw' hb=>hT.on hb);obtain⟨d,g,h,bz⟩:=yb w 74 60 #[.int .i64 p,.int .i64 0] #[.bool false,.slice none 0 0,.slice none 0 0];obtain⟨g0,g1⟩:=g.c2;have HB:=zd d;have HK:=zd h;clear hT d g h bz;go_enter func56,ntmps56;go_wp2_with fail;clear g0 g1;(with_reducible refine(mQ p _ (HT.o _ HB.o) j m).mono ?_);rintro e w2 ⟨b2,A2,n2,c2,E2,k2,f2,rfl,i,hb⟩;have a:=zj hb HK.o;obtain⟨sc0,sf0,sc1,sf1,sc2,sf2⟩:=yj a (.bool b2) (.slice A2 n2 c2);obtain⟨r0,r1,r2⟩:=(yi a (.bool b2) (.slice A2 n2 c2) (.slice E2 k2 f2)).c3;have HG:=zd (xw i a (ze HB.o hb) za);clear hb a i HB HK;go_wp2;refine bodyPost_ret (v:=.agg #[.bool b2,.slice A2 n2 c2,.slice E2 k2 f2]) (by simp [results,results56,go_sem,r0,r1,r2]) rfl ?_;exact HG.o
theorem YN {q:Int}(hT:zv w)(hp:wC p)(hq:wC q)(h0:q≠0):
  Calls prog 56 #[.agg #[.int .i64 p,.int .i64 q]] w (ye w (ut p q)):=by
 rw [nE h0];obtain⟨m,t⟩:=hp;obtain⟨u,x⟩:=hq;have H0:=zd h0;have hd0:(q==0)=false:=by rw [beq_eq_false_iff_ne];exact h0
 have HT:=zn w (λw' hb=>hT.on hb);obtain⟨d,g,h,bz⟩:=yb w 74 60 #[.int .i64 p,.int .i64 q] #[.bool false,.slice none 0 0,.slice none 0 0];obtain⟨g0,g1⟩:=g.c2;have HB:=zd d;have HK:=zd h;clear hT d g h bz h0;go_enter func56,ntmps56;go_wp2_with fail;clear g0 g1;(with_reducible refine(sy p q _ (HT.o _ HB.o) m t u x H0.o).mono ?_);rintro e w2 ⟨b2,A2,n2,c2,E2,k2,f2,rfl,i,hb⟩;obtain⟨s1,s2,s3⟩:=zG w2 60 #[.bool b2,.slice A2 n2 c2,.slice E2 k2 f2];obtain⟨p0,p1,p2⟩:=s2.c3;have a:=zj s1 (zj hb HK.o);have j:=i.below s1;obtain⟨sc0,sf0,sc1,sf1,sc2,sf2⟩:=yj a (.bool b2) (.slice A2 n2 c2);obtain⟨r0,r1,r2⟩:=(yi a (.bool b2) (.slice A2 n2 c2) (.slice E2 k2 f2)).c3;have HG:=zd (xw j a (ze (ze HB.o hb) s1) za);clear hb a i j HB HK s1 s2 s3;go_wp2;refine bodyPost_ret (v:=.agg #[.bool b2,.slice A2 n2 c2,.slice E2 k2 f2]) (by simp [results,results56,go_sem,r0,r1,r2]) rfl ?_;exact HG.o
theorem kW {q:Int}(hT:zv w)(hp:wC p)(hq:wC q):
  Calls prog 56 #[.agg #[.int .i64 p,.int .i64 q]] w (ye w (ut p q)):=by
 by_cases h0:q=0
 ·subst h0;exact YI hT hp
 ·exact YN hT hp hq h0
def xf (L:List (Int×Int)):List Rat:=L.map λq=>ut q.1 q.2
theorem aC {W:World}{n:Nat}{L:List (Int×Int)}(h:vm W A n c L):zI 1 (xf L):=λx hx=>by
 obtain⟨q,hq,rfl⟩:=List.mem_map.1 hx;obtain⟨⟨h1,h2⟩,h3,h4⟩:=h.ints q hq;exact su h1 h2 h3 h4
theorem jm (L:List (Int×Int)):(xf L).length=L.length:=YJ _
theorem Wx:sZ vV where
 below h hb:=h.below hb
 offg h hk hcs ho:=⟨⟨h.1.1,eB h.1.2 hk hcs ho⟩,eB h.2 hk hcs ho⟩
abbrev ko (w:World)(A:zf)(n c:Nat)(xs:List Rat):Prop:=yf vV w A n c xs
theorem ko.keep {w':World}{n:Nat}(h:ko w A n c xs)(hb:Below w.heap.size w w'):ko w' A n c xs:=yf.below Wx h hb
theorem ko.get {wr:World}{n:Nat}(h:ko w A n c xs)(hb:Below w.heap.size w wr){i:Nat}(hi:i<n):∃(ad:Addr) (b:Bool) (B:zf) (m d:Nat) (F:zf) (u v:Nat),A=some ad/\ad.block<w.heap.size/\wr.cell? (ad.add (i*3))=some (.bool b)/\wr.cell? ⟨(ad.add (i*3)).block,(ad.add (i*3)).off+1,none⟩=some (.slice B m d)/\wr.cell? ⟨(ad.add (i*3)).block,(ad.add (i*3)).off+2,none⟩=some (.slice F u v)/\vV wr (xs.getD i 0) b B m d F u v:=by
 obtain⟨ad,b,B,m,d,F,u,v,e,h0,h1,h2,h3,h4⟩:=h.at_ hi 0;exact⟨ad,b,B,m,d,F,u,v,e,h0,zq hb h1,zq hb (v8 h2),zq hb (rh h3),h4.below hb⟩
theorem Zc {T:World->Prop}{M:Nat->Prop}(P:∀w w',T w->Below w.heap.size w w'->T w')(IC:oQ T)(QC:oR T M)(p q:Int)(r:Rat)(K:Nat)(bx:Bool)(Bx:zf)(mx dx:Nat)(Ex:zf)(ux vx:Nat)(w:World)(hK:K<=16777216)(hz:zt K r)(h:zu w r bx Bx mx dx Ex ux vx)(hT:T w)(D: -9223372036854775808<=p)(E:p<=9223372036854775807)(F: -9223372036854775808<=q)(G:q<=9223372036854775807)(Q:q≠0)(he:r=Rat.divInt p q):
  Calls prog 16 #[.agg #[.bool bx,.slice Bx mx dx,.slice Ex ux vx],.int .i64 p,.int .i64 q] w λe w'=>e=.returned (.bool true)/\Below w.heap.size w w':=by
 have I:=zd IC;have v:=zd QC;have HT:=zn w (λw' hb=>P w w' hT hb);have HE:=zd he;have A:=zd hz;have i:=zd h;clear IC QC hT he hz h;go_enter func16,ntmps16;have hB:=qY w.heap.size w;obtain⟨j,B,bz⟩:=zG w 60 #[.bool bx,.slice Bx mx dx,.slice Ex ux vx];have hB:=ze hB j;have i:=zd (i.o.below j);obtain⟨g1,e1,i1⟩:=B.c3;clear j B bz;go_wp2_with fail;generalize w.alloc (.cells #[.bool bx,.slice Bx mx dx,.slice Ex ux vx] 60)=W1 at*;have z:zg (zt (1) (Rat.divInt p q)):=zt.made (K:=1) (by show Int.natAbs p<18446744073709551616^1;have e1: -9223372036854775808<=p:=D;have e2:p<=9223372036854775807:=E;omega) (by show Int.natAbs q<18446744073709551616^1;have e1: -9223372036854775808<=q:=F;have e2:q<=9223372036854775807:=G;omega) zh;(with_reducible refine(v.o.of p q _ (HT.o _ hB) D E F G Q).mono ?_);rintro e C ⟨b2,B2,m2,d2,E2,u2,v2,rfl,H,hb⟩;have hB:=ze hB hb;have i:=zd (i.o.below hb);obtain⟨g1,e1,i1⟩:=zU hb g1 e1 i1;have t:=zd H;clear hb H;obtain⟨j,B,bz⟩:=zG C 60 #[.bool b2,.slice B2 m2 d2,.slice E2 u2 v2];have hB:=ze hB j;have i:=zd (i.o.below j);obtain⟨g1,e1,i1⟩:=zU j g1 e1 i1;have t:=zd (t.o.below j);obtain⟨g3,e3,i3⟩:=B.c3;clear j B bz;go_wp2_with fail;generalize C.alloc (.cells #[.bool b2,.slice B2 m2 d2,.slice E2 u2 v2] 60)=W3 at*;generalize C.heap.size=q3 at*;have C0:=zn W3 (λw' h=>xc (decide_eq_true HE.o) (v.o.same (r) (Rat.divInt p q) bx b2 Bx B2 mx m2 dx d2 Ex E2 ux u2 vx v2 w' (HT.o _ (ze hB h)) (i.o.below h) (t.o.below h) (ya A i.o) (ya z t.o)));have J:zg (Sz (K) (r.num).natAbs):=zt.num A.o;have C1:=zn W3 (λw' h=>v.o.num (r) bx Bx mx dx Ex ux vx w' (HT.o _ (ze hB h)) (i.o.below h) (ya A i.o));have L:zg (Sz (1) ((Rat.divInt p q).num).natAbs):=zt.num z.o;have C2:=zn W3 (λw' h=>v.o.num (Rat.divInt p q) b2 B2 m2 d2 E2 u2 v2 w' (HT.o _ (ze hB h)) (t.o.below h) (ya z t.o));have C3:=zn W3 (λw' h b4 B4 m4 d4 (d:zO w' (r.num) b4 B4 m4 d4) b5 B5 m5 d5 (g:zO w' ((Rat.divInt p q).num) b5 B5 m5 d5)=>qq (by rw [HE.o]) (I.o.cmp (r.num) ((Rat.divInt p q).num) b4 b5 B4 B5 m4 m5 d4 d5 w' (HT.o _ (ze hB h)) d g (by have:=Sz.words J.o d.words;omega) (by have:=Sz.words L.o g.words;omega)));have N:zg (Sz (K) (r.den)):=zt.den A.o;have C4:=zn W3 (λw' h=>v.o.den (r) bx Bx mx dx Ex ux vx w' (HT.o _ (ze hB h)) (i.o.below h) (ya A i.o));have O:zg (Sz (1) ((Rat.divInt p q).den)):=zt.den z.o;have C5:=zn W3 (λw' h=>v.o.den (Rat.divInt p q) b2 B2 m2 d2 E2 u2 v2 w' (HT.o _ (ze hB h)) (t.o.below h) (ya z t.o));have C6:=zn W3 (λw' h B6 m6 d6 (m:zp w' (r.den) B6 m6 d6) B7 m7 d7 (u:zp w' ((Rat.divInt p q).den) B7 m7 d7)=>lj (x:=r.den) (y:=(Rat.divInt p q).den) (by rw [HE.o]) m u (z7 N m) (z7 O u));have a:=(qY W3.heap.size W3).drew;refine rg (zk g1 (zk e1 (zk i1 (zk g3 (zk e3 (zk i3 zQ)))))) (λhHeld=>?_);refine tk 0 ?_;refine tk 1 ?_;refine tk 2 ?_;refine tk 3 ?_;refine rc 4 (λK hK=>?_);go_simp;go_at_call 26;(with_reducible refine(C0.o _ a).mono ?_);rintro e wa4 ⟨rfl,hb⟩;have a:=ze a hb;refine hK.out _ _ (Cs.below hHeld hb) (λhHeld=>?_);clear hK K hb
 try simp only [zR]
 refine tk 5 ?_;refine tk 6 ?_;refine tk 7 ?_;refine tk 9 ?_;refine rc 8 (λK hK=>?_);go_simp;go_at_call 50;(with_reducible refine(C1.o _ a).mono ?_);rintro e wa5 ⟨b4,B4,m4,d4,rfl,d,hb⟩;have a:=ze a hb;refine hK.out _ _ (Cs.below hHeld hb) (λhHeld=>?_);clear hK K hb
 try simp only [zR]
 refine rc 10 (λK hK=>?_);go_simp;go_at_call 50;(with_reducible refine(C2.o _ a).mono ?_);rintro e wa6 ⟨b5,B5,m5,d5,rfl,g,hb⟩;have a:=ze a hb;have d:=d.below hb;refine hK.out _ _ (Cs.below hHeld hb) (λhHeld=>?_);clear hK K hb
 try simp only [zR]
 refine rc 11 (λK hK=>?_);go_simp;go_at_call 49;(with_reducible refine(C3.o _ a _ _ _ _ d _ _ _ _ g).mono ?_);rintro e wa7 ⟨rfl,hb⟩;have a:=ze a hb;have d:=d.below hb;have g:=g.below hb;refine hK.out _ _ (Cs.below hHeld hb) (λhHeld=>?_);clear hK K hb
 try simp only [zR]
 refine tk 12 ?_;refine tk 13 ?_;refine tk 14 ?_;refine tk 15 ?_;refine tk 17 ?_;refine rc 16 (λK hK=>?_);go_simp;go_at_call 52;(with_reducible refine(C4.o _ a).mono ?_);rintro e wa8 ⟨B6,m6,d6,rfl,m,hb⟩;have a:=ze a hb;have d:=d.below hb;have g:=g.below hb;refine hK.out _ _ (Cs.below hHeld hb) (λhHeld=>?_);clear hK K hb
 try simp only [zR]
 refine rc 18 (λK hK=>?_);go_simp;go_at_call 52;(with_reducible refine(C5.o _ a).mono ?_);rintro e wa9 ⟨B7,m7,d7,rfl,u,hb⟩;have a:=ze a hb;have d:=d.below hb;have g:=g.below hb;have m:=m.below hb;refine hK.out _ _ (Cs.below hHeld hb) (λhHeld=>?_);clear hK K hb
 try simp only [zR]
 refine rc 19 (λK hK=>?_);go_simp;go_at_call 51;(with_reducible refine(C6.o _ a _ _ _ m _ _ _ u).mono ?_);rintro e wa10 ⟨rfl,hb⟩;have a:=ze a hb;have d:=d.below hb;have g:=g.below hb;have m:=m.below hb;have u:=u.below hb;refine hK.out _ _ (Cs.below hHeld hb) (λhHeld=>?_);clear hK K hb
 try simp only [zR]
 refine tk 20 ?_;refine tk 21 ?_;refine tk 22 ?_;refine z8 ?_;have hB:=ze hB a;obtain⟨g1,e1,i1,g3,e3,i3⟩:=zM a g1 e1 i1 g3 e3 i3;clear a hHeld d g m u C0 C1 C2 C3 C4 C5 C6;go_wp2;go_ret;exact⟨by first|rfl|simp,hB⟩
