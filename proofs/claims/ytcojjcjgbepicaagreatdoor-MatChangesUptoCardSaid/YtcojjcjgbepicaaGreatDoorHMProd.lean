/- What this claim leans on. -/
import Derived.Test.YtcojjcjgbepicaaGreatDoorHMPick
namespace Go.Proofs.YtcojjcjgbepicaaGreatDoor
open Go Go.RowKit Go.Proofs.Tryz
set_option maxHeartbeats 16000000
set_option maxRecDepth 100000
set_option linter.unusedVariables false
set_option linter.unusedSimpArgs false
theorem zlS {w:World}{g n:Nat}{t:TypeId}(hk:Blk w g t (madeCells zdN n)):zbd (zaE zak) w t g n (List.replicate n []):=by
 refine⟨si9,⟨_,hk,znM _,size_madeCells _ _⟩,λi x hi=>?_⟩;have a:i<n:=by
  have:=(List.getElem?_eq_some_iff.1 hi).1;simpa using this
 obtain rfl:[]=x:=by
  rw [List.getElem?_replicate,if_pos a] at hi;injection hi
 refine⟨none,0,?_,zaE.nil _⟩;rw [hk.cell,zbJ _ _ _ a,show zdN.size=1 from rfl,Nat.mod_one];rfl
theorem zot (n:Nat)(hn:n<=1099511627776)(W:World):(Instr.makeSlice 30 (.int .i64 (n:Int)) (.int .i64 (n:Int))).run prog W=.ok (.slice (some ⟨W.heap.size,0,none⟩) n n) (W.alloc (.cells (madeCells zdN n) 71)):=by
 obtain⟨i0,a,b,c,d⟩:=info_parts zeq;have h:=zaW (P:=prog) _ _ i0 _ underlying30 a b .i64 .i64 n n (Nat.le_refl _) (by rw [d];omega) om9 W;rw [c,Nat.mul_one] at h;exact h
section
variable {A B:oA9}{n c k k' d m K K':Nat}{MA MB:List (List Rat)}{w:World}
theorem mulM_get {r:Nat}(hr:r<n):(zhG n k m MA MB)[r]?=some (zcj (zba k m MB) (MA.getD r [])):=by
 rw [zpg];exact zjC _ hr
theorem mat_mul (hT:zam w)(hA:zaH w A n c k MA)(hB:zaH w B k d m MB)(z:zay K MA)(z':zay K' MB)(hK:K<=67108864:=by omega)(av:K'<=67108864:=by omega)(hS:1+k*(K'+K+1)<=67108864:=by omega):
  Calls prog 54 #[.agg #[.slice A n c,.int .i64 (k:Int)],.agg #[.slice B k d,.int .i64 (m:Int)]] w (zbM w n m (zhG n k m MA MB)):=by
 obtain⟨hn,hk⟩:=And.intro hA.hn hA.hm;have hm:=hB.hm;have e0:((k:Int) !=(k:Int))=false:=si9;have HR:=λW=>lh9 (zbW B k d (m:Int) W);have aa:=λW=>lh9 (zbW A n c (k:Int) W);have ap:=lh9 hA;have R:=lh9 (λW (hb:Below w.heap.size w W)=>zhU (hB.keep hb));have S:=lh9 (λW (Q V:oA9) (q e:Nat) (r:Nat) (a5:r<n) (hb:Below w.heap.size w W) (hr:zaJ (zaE zak) W Q m (zba k m MB)) (hv:zaL W V k e (MA.getD r []))=>zjc (q:=q) (hT.on hb) hr (zbO k m MB).cols hv (z'.turn hB.dims) (z.row (i:=r) (by rw [hA.dims.rows];exact a5)) hm hk av hK hS);have Z:Hid ((zhG n k m MA MB).length=n):=zhu _ _ _;have aj:Hid (∀r,r<n->(zhG n k m MA MB)[r]?=some (zcj (zba k m MB) (MA.getD r []))):=λr hr=>mulM_get hr;have a1:Hid (∀v,(zcj (zba k m MB) v).length=m):=λv=>by rw [zjE];exact zhu _ _ _
 have ai:=lh9 (zks n k m MA MB);obtain⟨M,hM⟩:∃M,zhG n k m MA MB=M:=⟨_,rfl⟩;rw [hM] at Z aj ai⊢;have hmk:=zot n om9;obtain⟨ar,ab,ac,au,bz⟩:=zbs w 32 32 32 #[.slice A n c,.int .i64 (k:Int)] #[.slice B k d,.int .i64 (m:Int)] #[.slice none 0 0,.int .i64 0];obtain⟨p0,p1⟩:=ab.c2;obtain⟨q0,q1⟩:=ac.c2;have HB:=lh9 ar;have HK:=lh9 au;have N:=lh9 ab;have O:=lh9 ac;have i0:(0:Int)<=(n:Int):=om9;clear hT hA hB z z' hM ar ab ac au bz hS hK av;go_enter func54,ntmps54;go_wp2_with fail;generalize ((w.alloc (.cells #[.slice A n c,.int .i64 (k:Int)] 32)).alloc (.cells #[.slice B k d,.int .i64 (m:Int)] 32)).alloc (.cells #[.slice none 0 0,.int .i64 0] 32)=W1 at*;have b:=(Below.refl W1.heap.size W1).drew;refine rg (csc p1 (csc q0 (csc q1 csn))) (λhHeld=>?_);clear p0 p1 q0 q1;have HB:=lh9 (zac HB.out b);have HK:=lh9 (zad b HK.out);have N:=lh9 (zad b N.out);have O:=lh9 (zad b O.out);clear b;generalize W1.drew=D at*;refine tk 0 ?_;refine tk 1 ?_;refine tk 2 ?_;refine rc 3 (λKK a=>?_);go_simp;refine(HR _).out.mono ?_;rintro e w2 ⟨rfl,hb⟩;refine a.out _ _ (Cs.below hHeld hb) (λhHeld=>?_);clear a KK;have L:=lh9 (zac HB.out hb);have C:=lh9 (zad hb HK.out);have s:=lh9 (zad hb N.out);have t:=lh9 (zad hb O.out);clear hb HB HK N O;refine tk 4 ?_;refine rdn ?_;clear hHeld;go_upto_region 3 with fail
 go_cut [6,16,17,18,19,20,21] (λs6 s16 s17 s18 s19 s20 s21 wx=>∃g1 g2:Nat,s6=.pointer (some ⟨g2,0,none⟩)/\g1≠g2/\w2.heap.size<=g1/\w2.heap.size<=g2/\Blk wx g1 71 (madeCells zdN n)/\Blk wx g2 32 #[.slice (some ⟨g1,0,none⟩) n n,.int .i64 (m:Int)]/\Below w2.heap.size w2 wx)
 case first=>
  obtain⟨p0,p1⟩:=s.out.c2;obtain⟨q0,q1⟩:=t.out.c2;have hl1:=s.out.lt;have hl2:=t.out.lt;have b:=(Below.refl w2.heap.size w2).drew;refine rg (csc p0 (csc p1 (csc q1 csn))) (λhHeld=>?_);clear p0 p1 q0 q1 s t C L ap R S;generalize w2.drew=D2 at*;refine tk 0 ?_;refine tk 3 ?_;refine tk 4 ?_;refine rcb 1 6 (λKK a=>?_) (λKK a=>?_)
  ·go_simp;refine(aa _).out.mono ?_;rintro e w4 ⟨rfl,hb⟩;refine a.out _ _ (Cs.below hHeld hb) (λhHeld=>?_);clear a KK;have b:=zac b hb;clear hb;refine rcb 2 6 (λKK a=>?_) (λKK a=>?_)
   ·go_simp;obtain⟨t1,t2,t3⟩:=zaD w4 71 (madeCells zdN n);refine a.out _ _ (Cs.below hHeld t1) (λhHeld=>?_);clear a KK;have F:w2.heap.size<=w4.heap.size:=b.size;have b:=zac b t1;generalize w4.alloc (.cells (madeCells zdN n) 71)=W5 at*;generalize w4.heap.size=g1 at*;refine tk 5 ?_;refine rc 6 (λKK a=>?_);go_simp;obtain⟨u1,u2,u3⟩:=zaD W5 32 #[.slice none 0 0,.int .i64 0];refine a.out _ _ (Cs.below hHeld u1) (λhHeld=>?_);clear a KK;have l:w2.heap.size<=W5.heap.size:=b.size;have j:g1≠W5.heap.size:=om9;have b:=zac b u1;have t4:=zad u1 t2;generalize W5.alloc (.cells #[.slice none 0 0,.int .i64 0] 32)=W6 at*;generalize W5.heap.size=g2 at*;obtain⟨x,y,G,H⟩:=st2 u2 (.slice (some ⟨g1,0,none⟩) n n);refine rc 7 (λKK a=>?_);go_simp;refine a.out _ _ (Cs.far hHeld (zcM _ _ _ _) ⟨by show w.heap.size≠g2;omega,by show w.heap.size≠g2;omega,by show w.heap.size+1≠g2;omega,trivial⟩) (λhHeld=>?_);clear a KK;refine rdn ?_;clear hHeld x y G H;go_wp2;go_meet;exact⟨g1,g2,rfl,j,F,l,Blk.far (p:=⟨g2,1,none⟩) (Blk.far (p:=⟨g2,0,none⟩) t4 j _) j _,sn2 u2 _ _,bl2 _ _ l b⟩
   ·go_simp;obtain⟨u1,u2,u3⟩:=zaD w4 32 #[.slice none 0 0,.int .i64 0];refine a.out _ _ (Cs.below hHeld u1) (λhHeld=>?_);clear a KK;have l:w2.heap.size<=w4.heap.size:=b.size;have b:=zac b u1;generalize w4.alloc (.cells #[.slice none 0 0,.int .i64 0] 32)=W5 at*;generalize w4.heap.size=g2 at*;refine rc 2 (λKK a=>?_);go_simp;obtain⟨t1,t2,t3⟩:=zaD W5 71 (madeCells zdN n);refine a.out _ _ (Cs.below hHeld t1) (λhHeld=>?_);clear a KK;have F:w2.heap.size<=W5.heap.size:=b.size;have j:W5.heap.size≠g2:=om9;have b:=zac b t1;have u4:=zad t1 u2;generalize W5.alloc (.cells (madeCells zdN n) 71)=W6 at*;generalize W5.heap.size=g1 at*;refine tk 5 ?_;obtain⟨x,y,G,H⟩:=st2 u4 (.slice (some ⟨g1,0,none⟩) n n);refine rc 7 (λKK a=>?_);go_simp;refine a.out _ _ (Cs.far hHeld (zcM _ _ _ _) ⟨by show w.heap.size≠g2;omega,by show w.heap.size≠g2;omega,by show w.heap.size+1≠g2;omega,trivial⟩) (λhHeld=>?_);clear a KK;refine rdn ?_;clear hHeld x y G H;go_wp2;go_meet;exact⟨g1,g2,rfl,j,F,l,Blk.far (p:=⟨g2,1,none⟩) (Blk.far (p:=⟨g2,0,none⟩) t2 j _) j _,sn2 u4 _ _,bl2 _ _ l b⟩
  ·go_simp;obtain⟨u1,u2,u3⟩:=zaD D2 32 #[.slice none 0 0,.int .i64 0];refine a.out _ _ (Cs.below hHeld u1) (λhHeld=>?_);clear a KK;have l:w2.heap.size<=D2.heap.size:=b.size;have b:=zac b u1;generalize D2.alloc (.cells #[.slice none 0 0,.int .i64 0] 32)=W4 at*;generalize D2.heap.size=g2 at*;refine rc 1 (λKK a=>?_);go_simp;refine(aa _).out.mono ?_;rintro e W5 ⟨rfl,hb⟩;refine a.out _ _ (Cs.below hHeld hb) (λhHeld=>?_);clear a KK;have b:=zac b hb;have u2:=zad hb u2;have u3:=Nat.le_trans u3 hb.size;clear hb;refine rc 2 (λKK a=>?_);go_simp;obtain⟨t1,t2,t3⟩:=zaD W5 71 (madeCells zdN n);refine a.out _ _ (Cs.below hHeld t1) (λhHeld=>?_);clear a KK;have F:w2.heap.size<=W5.heap.size:=b.size;have j:W5.heap.size≠g2:=om9;have b:=zac b t1;have u4:=zad t1 u2;generalize W5.alloc (.cells (madeCells zdN n) 71)=W6 at*;generalize W5.heap.size=g1 at*;refine tk 5 ?_;obtain⟨x,y,G,H⟩:=st2 u4 (.slice (some ⟨g1,0,none⟩) n n);refine rc 7 (λKK a=>?_);go_simp;refine a.out _ _ (Cs.far hHeld (zcM _ _ _ _) ⟨by show w.heap.size≠g2;omega,by show w.heap.size≠g2;omega,by show w.heap.size+1≠g2;omega,trivial⟩) (λhHeld=>?_);clear a KK;refine rdn ?_;clear hHeld x y G H;go_wp2;go_meet;exact⟨g1,g2,rfl,j,F,l,Blk.far (p:=⟨g2,1,none⟩) (Blk.far (p:=⟨g2,0,none⟩) t2 j _) j _,sn2 u4 _ _,bl2 _ _ l b⟩
 case rest=>
  obtain⟨g1,g2,rfl,j,F,l,af,h,hb⟩:=hcut;have hsz:=C.out.lt;have hl7:=af.lt;have hwr:w.heap.size<=w2.heap.size:=L.out.size;have Y:=lh9 (zac L.out hb);have an:=lh9 (zad hb C.out);have I:=lh9 (zad hb s.out);obtain⟨p0,p1⟩:=I.out.c2;obtain⟨q0,q1⟩:=(zad hb t.out).c2;have aq:=lh9 af;have ao:=lh9 h;clear hb af h L C s t HR aa;go_wp2_with fail;refine(R.out _ Y.out).mono ?_;rintro e w5 ⟨g5,rfl,hg5,aw,hb⟩;have E:=lh9 aw.rows;have f:zbd (zaE zak) w5 71 g1 n (zcy [] M n 0):=by rw [zbV];exact zlS (zad hb aq.out)
  have hB:=zac Y.out hb;have o:=zad hb an.out;have h:=zad hb ao.out;have a3:=Below.refl w5.heap.size w5;obtain⟨p0,p1⟩:=(zad hb I.out).c2;have hl5:=f.lt;have hl6:=h.lt;clear hb aw q0 q1 Y an I aq ao;go_wp2_with fail;clear p0 p1
  go_loopg [27] (n+1) (λg ix wr=>∃(r:Nat),r<=n/\n<g+r/\ix=.int .i64 r/\zbd (zaE zak) wr 71 g1 n (zcy [] M n r)/\zaJ (zaE zak) wr (some ⟨g5,0,none⟩) m (zba k m MB)/\Below w.heap.size w wr/\Blk wr (w.heap.size+1+1) 32 #[.slice none 0 0,.int .i64 0]/\Blk wr g2 32 #[.slice (some ⟨g1,0,none⟩) n n,.int .i64 (m:Int)])
  case atStart=>exact⟨0,Nat.zero_le _,om9,rfl,f,E.out,hB,o,h⟩
  case round=>
   clear f hB o h a3 E;obtain⟨r,hrn,hg,rfl,f,ae,hB,o,h⟩:=hrel;by_cases hlt:r<n
   ·obtain⟨ad,Bq,dq,rfl,-,hc,hv⟩:=ap.out.row hB hlt;have a4:decide ((r:Int)<(n:Int))=true:=decide_eq_true om9;have i2:(0:Int)<=(r:Int):=om9;have i3:(r:Int)<(n:Int):=om9;obtain⟨p0,p1⟩:=h.c2;have b:=(Below.refl wr.heap.size wr).drew;have T:=lh9 (f.below (zaq zas) b);have E:=lh9 (ae.below (zaq zas) b);have HV:=lh9 (zaL.keep hv b);have X:=lh9 (zac hB b);have ak:=lh9 (zad b o);have C:=lh9 (zad b h);have a0:=lh9 (aj.out r hlt);clear f ae hv hB o h b;go_wp2_with fail;refine rg (csc p0 csn) (λhHeld=>?_);clear p0 p1 hc;generalize wr.drew=D2 at*;refine tk 0 ?_;refine tk 1 ?_;refine tk 2 ?_;refine tk 3 ?_;refine tk 4 ?_;refine rc 5 (λKK a=>?_);go_simp;(with_reducible refine(S.out _ _ _ _ _ r hlt X.out E.out HV.out).mono ?_);rintro e w7 ⟨g7,rfl,hg7,ax,hb⟩;refine a.out _ _ (Cs.below hHeld hb) (λhHeld=>?_);clear a KK;have P:=T.out.below (zaq zas) hb;have ag:=zbd.set_ (zaq zas) P hlt (zcq ax) (a1.out _);rw [zco [] M n r Z.out hlt _ a0.out] at ag;obtain⟨q0,x,y⟩:=P.ready hlt;have J:zbn g1 w7 (w7.setCell ⟨g1,r,none⟩ (.slice (some ⟨g7,0,none⟩) m m)):=zbn.of_far ((zbS.refl g1 w7).set_ r _);have U:=E.out.below (zaq zas) hb;have ay:∃cs,Blk w7 g1 71 cs/\∀u ∈ cs.toList,zbf u:=by obtain⟨cs,h1,h2,_⟩:=P.blk;exact⟨cs,h1,h2⟩
    have a2:=lh9 ag;have ah:Hid (zaJ (zaE zak) (w7.setCell ⟨g1,r,none⟩ (.slice (some ⟨g7,0,none⟩) m m)) (some ⟨g5,0,none⟩) m (zba k m MB)):=by
     obtain⟨cs,h1,h2⟩:=ay;exact U.off (λad e=>by injection e with e;subst e;show g5≠g1;omega) J (λh3=>zfN zas h3 h1 h2 J)
    have az:=lh9 (zag (p:=⟨g1,r,none⟩) (.slice (some ⟨g7,0,none⟩) m m) (show w.heap.size<=g1 by omega) (zac X.out hb));have al:=lh9 (Blk.far (p:=⟨g1,r,none⟩) (zad hb ak.out) (by show w.heap.size+1+1≠g1;omega) (.slice (some ⟨g7,0,none⟩) m m));have am:=lh9 (Blk.far (p:=⟨g1,r,none⟩) (zad hb C.out) (by show g2≠g1;omega) (.slice (some ⟨g7,0,none⟩) m m));clear hb P ag ax T E X ak C HV U ay J;refine tk 6 ?_;refine rc 7 (λKK a=>?_);go_simp;refine a.out _ _ ?_ (λhHeld=>?_)
    ·refine Cs.far hHeld ((zbS.refl g1 _).set_ r _) ⟨?_,trivial⟩;show g2≠g1;omega
    clear a KK;refine rdn ?_;clear hHeld x y;go_wp2;go_roundg (n - r)
    case measure=>omega
    case rel=>exact⟨r+1,om9,om9,by go_num,a2.out,ah.out,az.out,al.out,am.out⟩
   ·have hr:r=n:=om9;subst hr;have a4:decide ((r:Int)<(r:Int))=false:=si9;have HM:=lh9 (zhj (zcn [] M r Z.out▸f) ai.out hn hm);obtain⟨p0,p1⟩:=h.c2;obtain⟨x,y,G,H⟩:=st2 o (.slice (some ⟨g1,0,none⟩) r r);obtain⟨r0,r1⟩:=(sn2 o (.slice (some ⟨g1,0,none⟩) r r) (.int .i64 (m:Int))).c2;have HG:=lh9 (gmb2 HM.out (λad e=>by injection e with e;subst e;show w.heap.size+1+1<g1;omega) o hB om9);clear f ae hB o h;go_wp2;refine bodyPost_ret (v:=.tuple #[.agg #[.slice (some ⟨g1,0,none⟩) r r,.int .i64 (m:Int)],.bool true]) (by simp [results,results54,go_sem,r0,r1]) rfl ?_;exact HG.out
end
theorem ziT {w w':World}{x:Nat}{A:oA9}{n c g:Nat}(h:zal w x A n c)(a:0<n->∀ad,A=some ad->ad.block≠g)(ho:zbn g w w'):zal w' x A n c:=by
 refine⟨⟨h.1.1,λhn=>?_⟩,h.2⟩;obtain⟨ad,e,hb,hc⟩:=h.1.2 hn;refine⟨ad,e,Nat.lt_of_lt_of_le hb ho.1,λj v hv=>?_⟩;rw [ho.2 (ad.add j) (by rw [zan];exact hb) (by rw [zan];exact a hn ad e)];exact hc j v hv
def zdl (Z:Nat->Prop):El Rat:=λw x b A n c F k f=>zbZ w x b A n c F k f/\(0<n->∀ad,A=some ad->Z ad.block)/\(0<k->∀ad,F=some ad->Z ad.block)
theorem zar (Z:Nat->Prop):zbp (zdl Z):=⟨λh hb=>⟨zao.below h.1 hb,h.2⟩,λh hk a ho=>⟨zao.offg h.1 hk a ho,h.2⟩⟩
section
variable {Z Z':Nat->Prop}{w w':World}{x:Rat}{b:Bool}{A:oA9}{n c:Nat}{F:oA9}{k f:Nat}
theorem zdl.off {g:Nat}(h:zdl Z w x b A n c F k f)(hg:¬ Z g)(ho:zbn g w w'):zdl Z w' x b A n c F k f:=
 ⟨⟨⟨h.1.1.1,ziT h.1.1.2 (λhn ad e (e2:ad.block=g)=>hg (e2▸h.2.1 hn ad e)) ho⟩,ziT h.1.2 (λhn ad e (e2:ad.block=g)=>hg (e2▸h.2.2 hn ad e)) ho⟩,h.2⟩
theorem zdl.weak (h:zdl Z w x b A n c F k f)(hz:∀b,Z b->Z' b):zdl Z' w x b A n c F k f:=⟨h.1,λhn ad e=>hz _ (h.2.1 hn ad e),λhn ad e=>hz _ (h.2.2 hn ad e)⟩
theorem zjx (h:zbZ w x b A n c F k f):zdl (λb=>b<w.heap.size) w x b A n c F k f:=by
 refine⟨h,λhn ad e=>?_,λhn ad e=>?_⟩
 ·obtain⟨a,e',hb,-⟩:=h.1.2.1.2 hn;rw [e] at e';injection e' with e';subst e';exact hb
 ·obtain⟨a,e',hb,-⟩:=h.2.1.2 hn;rw [e] at e';injection e' with e';subst e';exact hb
theorem zqY {lo:Nat}(h:RefF lo w x b A n c F k f):zdl (λb=>lo<=b/\b<w.heap.size) w x b A n c F k f:=
 ⟨h.1,λhn ad e=>⟨h.2.1 ad e,(zjx h.1).2.1 hn ad e⟩,λhn ad e=>⟨h.2.2 ad e,(zjx h.1).2.2 hn ad e⟩⟩
end
theorem zkb {lo a:Nat}(h:lo<=a):zmf (zdl λb=>b<lo) a:=
 ⟨zar _,λhg _ h9=>h9.off (by show ¬(_<_);omega) (zbn.of_far ((zbS.refl _ _).set_ _ _)),λhg _ h9=>h9.off (by show ¬(_<_);omega) (zbn.of_far (zcM _ _ _ _))⟩
theorem zbP.low {w:World}{A:oA9}{n c m:Nat}{M:List (List Rat)}(h:zbP w A n c m M):zaJ (zaE (zdl λb=>b<w.heap.size)) w A n M:=
 ⟨h.rows.len,λi L hi=>by
  obtain⟨ad,B,d,e,h1,h2,h3⟩:=h.rows.num i L hi;exact⟨ad,B,d,e,h1,h2,zhM h3 zjx⟩⟩
def UnderB (vs:List Value)(v:Value)(lo:Nat):Prop:=(∀(i:Nat) (u:Value) (b:Nat),vs[i]?=some u->u.ownBlock=some b->b<lo)/\∀b,v.ownBlock=some b->b<lo
section
variable {E E':El Rat}{w w':World}{lo:Nat}{v:Value}{M:List (List Rat)}{vs:List Value}
theorem zaZ.under {a:Nat}(h:zaZ E w lo v M vs)(hl:w.heap.size<=a):UnderB vs v a:=by
 refine⟨λi u b hi e=>?_,λb e=>Nat.lt_of_lt_of_le (h.own.lt b e).2 hl⟩;have hi9:=(List.getElem?_eq_some_iff.1 hi).1;obtain⟨z9,zs9,h3,h4⟩:=h.num i _ (List.getElem?_eq_getElem (by have:=h.len;omega));rw [hi] at h3;injection h3 with h3;subst h3;exact Nat.lt_of_lt_of_le (h4.own.lt b e).2 hl
theorem zaZ.above (h:zaZ E w lo v M vs):∀(i:Nat) (u:Value) (b:Nat),vs[i]?=some u->u.ownBlock=some b->lo<=b:=λi u b hi e=>by
 have hi9:=(List.getElem?_eq_some_iff.1 hi).1;obtain⟨z9,zs9,h3,h4⟩:=h.num i _ (List.getElem?_eq_getElem (by have:=h.len;omega));rw [hi] at h3;injection h3 with h3;subst h3;exact(h4.own.lt b e).1
theorem zaZ.mono (h:zaZ E w lo v M vs)(hR:∀{x:Rat} {b:Bool} {A:oA9} {n c:Nat} {F:oA9} {k f:Nat},E w x b A n c F k f->E' w x b A n c F k f):zaZ E' w lo v M vs:=
 ⟨h.own,h.sl,λi L hi=>by
  obtain⟨u,us,h1,h2⟩:=h.num i L hi;exact⟨u,us,h1,h2.moved (λ_ _=>rfl)|>λh9=>⟨h2.own,h2.nou,λj x hj=>by
   obtain⟨b,B,m,d,F,u9,f,e1,e2,e3,e4⟩:=h2.num j x hj;exact⟨b,B,m,d,F,u9,f,e1,e2,e3,hR e4⟩⟩⟩,h.apart,h.far⟩
theorem zaZ.other {g:Nat}{t:TypeId}{cs:Array Value}(h:zaZ E w lo v M vs)(hk:Blk w g t cs)(hh:∀q,q≠g->w'.heap[q]?=w.heap[q]?)
  (a:∀{x:Rat} {b:Bool} {A:oA9} {n c:Nat} {F:oA9} {k f:Nat},E w x b A n c F k f->E w' x b A n c F k f) (h1:80≠t:=by decide) (h2:60≠t:=by decide):zaZ E w' lo v M vs:=by
 have hv:∀q,v.ownBlock=some q->q≠g:=λq e e2=>by
  subst e2;rcases h.own.2 with⟨e1,-⟩|⟨g9,cap,cur,e1,e3,e4,-⟩
  ·rw [e1] at e;cases e
  ·rw [e1] at e;simp [Value.ownBlock] at e;subst e;unfold Blk at hk;rw [hk] at e4;injection e4 with e4;injection e4 with _ e4;exact h1 e4.symm
 have hr:∀(i:Nat) (u:Value) (us:List Value) (L:List Rat) (q:Nat),zbD E w lo 60 u L us->u.ownBlock=some q->q≠g:=λi u us L q hu e e2=>by
  subst e2;rcases hu.own.2 with⟨e1,-⟩|⟨g9,cap,cur,e1,e3,e4,-⟩
  ·rw [e1] at e;cases e
  ·rw [e1] at e;simp [Value.ownBlock] at e;subst e;unfold Blk at hk;rw [hk] at e4;injection e4 with e4;injection e4 with _ e4;exact h2 e4.symm
 refine⟨zex h.own (λq e=>hh q (hv q e)),h.sl.block (λq e=>hh q (hv q e)),λi L hi=>?_,h.apart,h.far⟩;obtain⟨u,us,h3,h4⟩:=h.num i L hi;exact⟨u,us,h3,h4.moved (λq e=>hh q (hr i u us L q h4 e)) (λh5=>a h5)⟩
theorem zaZ.offt {g:Nat}{t:TypeId}{cs:Array Value}(h:zaZ E w lo v M vs)(hk:Blk w g t cs)(x y:Value)
  (a:∀{z:Rat} {b:Bool} {A:oA9} {n c:Nat} {F:oA9} {k f:Nat},E w z b A n c F k f->E ((w.setCell ⟨g,0,none⟩ x).setCell ⟨g,1,none⟩ y) z b A n c F k f) (h1:80≠t:=by decide) (h2:60≠t:=by decide):zaZ E ((w.setCell ⟨g,0,none⟩ x).setCell ⟨g,1,none⟩ y) lo v M vs:=
 h.other hk (λq hq=>(Below.heap_setCell _ ⟨g,1,none⟩ y q hq).trans (Below.heap_setCell w ⟨g,0,none⟩ x q hq)) a h1 h2
theorem zaZ.offt1 {g i:Nat}{t:TypeId}{cs:Array Value}(h:zaZ E w lo v M vs)(hk:Blk w g t cs)(x:Value)
  (a:∀{z:Rat} {b:Bool} {A:oA9} {n c:Nat} {F:oA9} {k f:Nat},E w z b A n c F k f->E (w.setCell ⟨g,i,none⟩ x) z b A n c F k f) (h1:80≠t:=by decide) (h2:60≠t:=by decide):zaZ E (w.setCell ⟨g,i,none⟩ x) lo v M vs:=
 h.other hk (λq hq=>Below.heap_setCell w ⟨g,i,none⟩ x q hq) a h1 h2
theorem zaZ.beside {base k:Nat}{u:Value}{us:List Value}(hE:zbp E)(h:zaZ E w lo v M vs)(ho:w.ownsRow base 80 1 u k us)(hs:zbL w u)(hg:w.grownBy w' u.ownBlock)(a:∀b,u.ownBlock=some b->v.ownBlock≠some b):zaZ E w' lo v M vs:=by
 have hu:∀(q:Nat) (L:List Rat) (z:Value) (zs:List Value),zbD E w lo 60 z L zs->z.ownBlock=some q->some q≠u.ownBlock:=λq L z zs hz e e2=>by
  rcases ho.2 with⟨e1,-⟩|⟨g9,cap,cur,e1,e3,e4,-⟩
  ·rw [e1] at e2;cases e2
  ·rw [e1] at e2;simp [Value.ownBlock] at e2;rcases hz.own.2 with⟨f1,-⟩|⟨g8,cap8,cur8,f1,f3,f4,-⟩
   ·rw [f1] at e;cases e
   ·rw [f1] at e;simp [Value.ownBlock] at e;rw [e,e2,e4] at f4;injection f4 with f4;injection f4 with _ f4;exact absurd f4 de9
 refine⟨zex h.own (λq e=>hg.block q (h.own.lt q e).2 (λe2=>a q e2.symm e)),h.sl.block (λq e=>hg.block q (h.own.lt q e).2 (λe2=>a q e2.symm e)),λi L hi=>?_,h.apart,h.far⟩;obtain⟨z,zs,h3,h4⟩:=h.num i L hi;exact⟨z,zs,h3,h4.moved (λq e=>hg.block q (h4.own.lt q e).2 (hu q L z zs h4 e)) (λh5=>hE.grownS hs hg h5)⟩
end
theorem zeB.offz {ok:Bool}{w:World}{A B:oA9}{n c g p q:Nat}{z y9:Int}{N m:Nat}{M:List (List Rat)}{t:TypeId}(h:zeB ok w A n c z N m M)(hk:Blk w g t #[.slice B p q,.int .i64 y9])(x y:Value)(ht:71≠t:=by decide):zeB ok ((w.setCell ⟨g,0,none⟩ x).setCell ⟨g,1,none⟩ y) A n c z N m M:=λe=>⟨(h e).1,(h e).2.1,(h e).2.2.offz hk x y ht⟩
theorem zcH {w:World}{base a k g:Nat}{e t:TypeId}{u:Value}{us:List Value}{cs:Array Value}(ho:w.ownsRow base e a u k us)(hk:Blk w g t cs)(h:e≠t):u.ownBlock≠some g:=λe2=>by
 rcases ho.2 with⟨e1,-⟩|⟨g9,cap,cur,e1,e3,e4,-⟩
 ·rw [e1] at e2;cases e2
 ·rw [e1] at e2;simp [Value.ownBlock] at e2;subst e2;unfold Blk at hk;rw [hk] at e4;injection e4 with e4;injection e4 with _ e4;exact h e4.symm
theorem zlD {w:World}{base a b k:Nat}{e:TypeId}{u:Value}{us:List Value}(ho:w.ownsRow base e b u k us)(h:a<=base):w.ownsRow a e b u k us:=by
 refine⟨ho.1,?_⟩;rcases ho.2 with h1|⟨g,cap,cur,e1,e2,e3⟩
 ·exact .inl h1
 ·exact .inr ⟨g,cap,cur,e1,Nat.le_trans h e2,e3⟩
theorem zaN.base {α:Type}{R:RP α}{w:World}{base a:Nat}{t:TypeId}{v:Value}{Ls:List (List α)}{vs:List Value}(h:zaN R w base t v Ls vs)(hb:a<=base):zaN R w a t v Ls vs:=⟨zlD h.own hb,h.sl,h.num⟩
section
variable {E:El Rat}{Z:Nat->Prop}{w:World}{g i:Nat}{t:TypeId}{cs:Array Value}
theorem ZR.box {B:oA9}{m d:Nat}{L:List Rat}(h:ZR E Z w B m d L)(hk:Blk w g t cs)(hs:∀u ∈ cs.toList,∀b,u≠.bool b)(x:Value)
  (a:∀{z:Rat} {b:Bool} {A:oA9} {n c:Nat} {F:oA9} {k f:Nat},E w z b A n c F k f->E (w.setCell ⟨g,i,none⟩ x) z b A n c F k f):ZR E Z (w.setCell ⟨g,i,none⟩ x) B m d L:=
 ⟨zhr h.1 hk hs (zbn.of_far ((zbS.refl _ _).set_ _ _)) a,h.2⟩
theorem ZM.box {A:oA9}{n c:Nat}{M:List (List Rat)}(h:ZM E Z w A n c M)(hk:Blk w g t cs)(hs:∀u ∈ cs.toList,∀b,u≠.bool b)(x:Value)
  (a:∀{z:Rat} {b:Bool} {A:oA9} {n c:Nat} {F:oA9} {k f:Nat},E w z b A n c F k f->E (w.setCell ⟨g,i,none⟩ x) z b A n c F k f) (ht:80≠t:=by decide):ZM E Z (w.setCell ⟨g,i,none⟩ x) A n c M:=
 ⟨h.fits,h.most,h.rows.off (λad e=>(h.ty ad e).ne hk ht) (zbn.of_far ((zbS.refl _ _).set_ _ _)) (λh5=>h5.box hk hs x a),λad e=>(h.ty ad e).set_ _ _ _⟩
end
theorem app_far {d n c:Nat}{u v:Value}{ad:Addr}(a:(Value.slice (some ad) n c).ownBlock=u.ownBlock\/(Value.slice (some ad) n c).ownBlock=some d)(h1:∀b,u.ownBlock=some b->v.ownBlock≠some b)(h2:∀b,v.ownBlock=some b->b<d):∀b,v.ownBlock=some b->ad.block≠b:=λb e e2=>by
 subst e2;rcases a with a|a
 ·exact h1 _ a.symm e
 ·have h3:=h2 _ e;simp [Value.ownBlock] at a;omega
theorem zeE {w:World}{g g' i:Nat}{t:TypeId}{cs:Array Value}(h:Blk w g t cs)(a:g≠g')(x:Value):Blk (w.setCell ⟨g',i,none⟩ x) g t cs:=(Below.heap_setCell w ⟨g',i,none⟩ x g a).trans h
def zfp (M:List (List Rat))(Y:List Rat):Nat->List (List Rat)
 |0=>M
 |k+1=>(zfp M Y k).set k (M.getD k []++[Y.getD k 0])
theorem zeH (M:List (List Rat))(Y:List Rat):∀k,(zfp M Y k).length=M.length
 |0=>rfl
 |k+1=>by unfold zfp;rw [List.length_set,zeH M Y k]
theorem zmB (M:List (List Rat))(Y:List Rat):∀k i,k<=i->(zfp M Y k)[i]?=M[i]?
 |0,i,_=>rfl
 |k+1,i,h=>by
   show((zfp M Y k).set k _)[i]?=_;rw [List.getElem?_set_ne om9,zmB M Y k i om9]
theorem zhC (M:List (List Rat))(Y:List Rat):∀k i,i<k->k<=M.length->(zfp M Y k)[i]?=some (M.getD i []++[Y.getD i 0])
 |0,i,h,_=>absurd h (Nat.not_lt_zero i)
 |k+1,i,h,hl=>by
   show((zfp M Y k).set k _)[i]?=_;by_cases hik:k=i
   ·subst hik;rw [List.getElem?_set_self (by rw [zeH];omega)]
   ·rw [List.getElem?_set_ne hik,zhC M Y k i om9 om9]
theorem zgb {n m p:Nat}{M:List (List Rat)}{Y:List Rat}(hd:zbG M n m)(hp:m+1=p):zfp M Y n=zbT n p λa b=>if b=m then Y.getD a 0 else atM M a b:=by
 subst hp;have d:zbG (zfp M Y n) n (m+1):=⟨by rw [zeH,hd.rows],λL hL=>by
  obtain⟨i,hi⟩:=List.mem_iff_getElem?.1 hL;have c:=(List.getElem?_eq_some_iff.1 hi).1;rw [zeH,hd.rows] at c;rw [zhC M Y n i c (by rw [hd.rows];exact Nat.le_refl _)] at hi;injection hi with hi;rw [<-hi,List.length_append,hd.row c];rfl⟩
 refine zbG.ext d (zbU _ _ _) λa b ha hb=>?_;rw [zdW ha hb];unfold atM;have e:(zfp M Y n).getD a []=M.getD a []++[Y.getD a 0]:=by
  rw [List.getD_eq_getElem?_getD,zhC M Y n a ha (by rw [hd.rows];exact Nat.le_refl _)];rfl
 rw [e]
 split
 ·rename_i h1
  subst h1;rw [List.getD_eq_getElem?_getD,List.getElem?_append_right (by rw [hd.row ha];exact Nat.le_refl _),hd.row ha,Nat.sub_self];rfl
 ·rw [List.getD_eq_getElem?_getD,List.getElem?_append_left (by rw [hd.row ha];omega),<-List.getD_eq_getElem?_getD]
theorem zaZ.outer {E:El Rat}{w:World}{lo n c:Nat}{A:oA9}{M:List (List Rat)}{vs:List Value}(h:zaZ E w lo (.slice A n c) M vs)(hn:0<M.length):∃(g0:Nat) (b:Array Value),A=some ⟨g0,0,none⟩/\lo<=g0/\Blk w g0 80 b/\(∀u ∈ b.toList,zbf u)/\∀(k:Nat) (u:Value),vs[k]?=some u->w.cell? ⟨g0,k,none⟩=some u:=by
 rcases h.own.2 with⟨e,h0⟩|⟨g,cap,cur0,e1,hbg,hg,hnc,hcm,hcs,htake⟩
 ·omega
 ·injection e1 with e1 e2 e3;subst e1;obtain⟨b,e9,a,f⟩:=h.sl g rfl;have d:b=cur0:=by
   rw [hg] at a;injection a with a;injection a with a;exact a.symm
  subst d;refine⟨g,b,rfl,hbg,hg,f,λk u hu=>?_⟩;have:=h.own.cells (g:=g) rfl k u hu;rw [zaF] at this;exact this
theorem zcC {w w':World}{p:Addr}{x:Value}{row:Option Nat}(h:w.cell? p=some x)(hb:p.block<w.heap.size)(hg:w.grownBy w' row)(hp:row≠some p.block):w'.cell? p=some x:=
 (World.cell?_of_block (hg.block p.block hb (λe=>hp e.symm))).trans h
theorem zdX {w:World}{p:Addr}{x:Value}{g i:Nat}(h:w.cell? p=some x)(hp:p.block≠g)(y:Value):(w.setCell ⟨g,i,none⟩ y).cell? p=some x:=
 (World.cell?_of_block (Below.heap_setCell w ⟨g,i,none⟩ y p.block hp)).trans h
theorem znO {vs:List Value}{v':Value}{k c hi top:Nat}{u:Value}(hu:vs[k]?=some u)(h:∀(i:Nat) (z:Value) (b:Nat),vs[i]?=some z->z.ownBlock=some b->b<hi\/top<=b)(a:v'.ownBlock=u.ownBlock\/v'.ownBlock=some c)(ht:top<=c):∀(i:Nat) (z:Value) (b:Nat),(vs.set k v')[i]?=some z->z.ownBlock=some b->b<hi\/top<=b:=λi z b d e=>by
 by_cases hik:k=i
 ·subst hik;obtain rfl:=zdK d;rcases a with a|a
  ·exact h k u b hu (a.symm.trans e)
  ·rw [a] at e;injection e with e;omega
 ·exact h i z b (zdz d hik) e
