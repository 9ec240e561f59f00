/- What this claim leans on. -/
import Derived.Test.YtcojjcjgbepicaaGreatDoorHMEdit
import Derived.Test.YtcojjcjgbepicaaGreatDoorHMRows
namespace Go.Proofs.YtcojjcjgbepicaaGreatDoor
open Go Go.RowKit Go.Proofs.Tryz
set_option maxHeartbeats 16000000
set_option maxRecDepth 100000
set_option linter.unusedVariables false
set_option linter.unusedSimpArgs false
section
variable {A:oA9}{n c m K:Nat}{M:List (List Rat)}{r:Int}{ok:Bool}{w:World}
theorem zjQ {p:Nat}(hp:n - 1=p)(e:inB r n=ok)(hT:zam w)(h:zaH w A n c m M)(z:zay K M)(hK:K+2<=67108864:=by omega):Calls prog 67 #[.agg #[.slice A n c,.int .i64 (m:Int)],.int .i64 r] w (zdr ok w p m (M.eraseIdx r.toNat)):=by
 subst hp;cases ok
 ·exact(zlu e).mono λ_ _ h=>ziR h
 ·obtain⟨h1,h2⟩:=zdZ e;have:=zqx (N:=n - 1) om9 hT h z h2 hK;rw [<-h1] at this;exact this.mono λ_ _ h=>zha h
theorem zjP {p:Nat}(hp:m - 1=p)(e:inB r m=ok)(hT:zam w)(h:zaH w A n c m M)(z:zay K M)(hK:K+2<=67108864:=by omega):Calls prog 68 #[.agg #[.slice A n c,.int .i64 (m:Int)],.int .i64 r] w (zdr ok w n p (zbT n p λa b=>if b<r.toNat then atM M a b else atM M a (b+1))):=by
 subst hp;cases ok
 ·exact(zlt e).mono λ_ _ h=>ziR h
 ·obtain⟨h1,h2⟩:=zdZ e;have:=zqw (p:=m - 1) om9 hT h z h2 hK;rw [<-h1] at this;exact this.mono λ_ _ h=>zha h
end
theorem zpW (T:List (List Rat))(k a b:Nat):atM (T.eraseIdx k) a b=if a<k then atM T a b else atM T (a+1) b:=by
 have e:(T.eraseIdx k).getD a []=if a<k then T.getD a [] else T.getD (a+1) []:=by
  rw [List.getD_eq_getElem?_getD,List.getElem?_eraseIdx]
  split<;>rw [List.getD_eq_getElem?_getD]
 unfold atM;rw [e]
 split<;>rfl
theorem zjj {n m k:Nat}{M:List (List Rat)}(hk:k<m):zba (m - 1) n ((zba n m M).eraseIdx k)=zbT n (m - 1) λa b=>if b<k then atM M a b else atM M a (b+1):=by
 refine zbG.ext (zbO _ _ _) (zbU _ _ _) λr c hr hc=>?_;rw [zlY hr hc,zdW hr hc,zpW]
 split
 ·exact zlY om9 hr
 ·exact zlY om9 hr
theorem zjO {A R:oA9}{n c d m:Nat}{M:List (List Rat)}{r s:Int}{w:World}(hT:zam w)(ha:zaH w A n c m M)(hr:zbP w R n d m M)(hx:zay 1 M)(bn:n<=6)(bm:m<=6):
  Calls prog 15 #[.agg #[.slice A n c,.int .i64 (m:Int)],.agg #[.slice R n d,.int .i64 (m:Int)],.int .i64 r,.int .i64 s] w λe w'=>e=.returned (.bool true)/\Below w.heap.size w w':=by
 have HX:=lh9 hx;have HD:Hid (zbG M n m):=ha.dims;obtain⟨ok,hq⟩:∃b,inB r n=b:=⟨_,rfl⟩;have a2:=lh9 hq;clear hq;obtain⟨aq,hq⟩:∃b,inB s m=b:=⟨_,rfl⟩;have ao:=lh9 hq;clear hq;have b3:=lh9 (fun(W:World) (h:zbP W R n d m M)=>zgn (z:=r) h);have b4:=lh9 (fun(A':oA9) (c':Nat) (W:World) (h:zbP W A' m c' n (zba n m M))=>zgn (z:=s) h);obtain⟨O1,b6⟩:∃O,zdI M r n=O:=⟨_,rfl⟩;obtain⟨O2,b7⟩:∃O,zdI (zba n m M) s m=O:=⟨_,rfl⟩;rw [b6] at b3;rw [b7] at b4;obtain⟨l1,cb⟩:∃l,O1.length=l:=⟨_,rfl⟩;obtain⟨l2,cc⟩:∃l,O2.length=l:=⟨_,rfl⟩;rw [cb] at b3;rw [cc] at b4;have cp:=lh9 b6;have cq:=lh9 b7;have cn:=lh9 cb;have co:=lh9 cc;clear b6 b7 cb cc;obtain⟨p1,hq⟩:∃p,n - 1=p:=⟨_,rfl⟩;have bx:=lh9 hq;clear hq;obtain⟨p2,hq⟩:∃p,m - 1=p:=⟨_,rfl⟩;have a1:=lh9 hq;clear hq;have HT:=up9 w (λw' hb=>hT.on hb);have HB:=lh9 (Below.refl w.heap.size w);have ay:=lh9 (ha);have ah:=lh9 (hr);clear hT ha hr hx;go_enter func15,ntmps15;obtain⟨f,ap,c4,-⟩:=zbg w 32 36 #[.slice A n c,.int .i64 (m:Int)] #[.slice R n d,.int .i64 (m:Int)];have HB:=lh9 (zac HB.out f);have ay:=lh9 (ay.out.keep f);have ah:=lh9 (ah.out.keep f);have a9:=lh9 (ap);have N:=lh9 (c4);clear f ap c4;go_wp2_with fail;generalize (w.alloc (.cells #[.slice A n c,.int .i64 (m:Int)] 32)).alloc (.cells #[.slice R n d,.int .i64 (m:Int)] 36)=W3 at*;obtain⟨dc,dd⟩:=a9.out.c2;go_wp2_with fail;clear dc dd;(with_reducible refine(zjQ bx.out a2.out (HT.out _ HB.out) ay.out HX.out).mono ?_);rintro e X6 ⟨A5,n5,c5,z5,rfl,c7,dw,hb⟩;have HB:=lh9 (zac HB.out hb);have ay:=lh9 (ay.out.keep hb);have ah:=lh9 (ah.out.keep hb);have a9:=lh9 (zad hb a9.out);have N:=lh9 (zad hb N.out);have Y:=lh9 (c7);clear hb c7;clear dw;obtain⟨f,ap,-⟩:=zaD X6 32 #[.slice A5 n5 c5,.int .i64 z5];have HB:=lh9 (zac HB.out f);have ay:=lh9 (ay.out.keep f);have ah:=lh9 (ah.out.keep f);have a9:=lh9 (zad f a9.out);have N:=lh9 (zad f N.out);have Y:=lh9 (Y.out.keep f);have ad:=lh9 (ap);clear f ap;go_upto_region 2 with fail;generalize X6.alloc (.cells #[.slice A5 n5 c5,.int .i64 z5] 32)=W8 at*;generalize X6.heap.size=q8 at*;obtain⟨de,df⟩:=a9.out.c2;go_wp2_with fail;clear de df;(with_reducible refine(zjP a1.out ao.out (HT.out _ HB.out) ay.out HX.out).mono ?_);rintro e b5 ⟨cm,c9,c6,dq,rfl,bt,c8,hb⟩;have HB:=lh9 (zac HB.out hb);have ah:=lh9 (ah.out.keep hb);have N:=lh9 (zad hb N.out);have Y:=lh9 (Y.out.keep hb);have ad:=lh9 (zad hb ad.out);have E:=lh9 (bt);clear hb bt;clear c8;obtain⟨f,ap,-⟩:=zaD b5 32 #[.slice cm c9 c6,.int .i64 dq];have HB:=lh9 (zac HB.out f);have ah:=lh9 (ah.out.keep f);have N:=lh9 (zad f N.out);have Y:=lh9 (Y.out.keep f);have ad:=lh9 (zad f ad.out);have E:=lh9 (E.out.keep f);have Z:=lh9 (ap);clear f ap;go_upto_region 3 with fail;generalize b5.alloc (.cells #[.slice cm c9 c6,.int .i64 dq] 32)=bo at*;generalize b5.heap.size=q13 at*;go_upto_region 3 with fail
 go_cut [28,29,30,31,32,33,34,35,36,37,38,39,40,41,42,43,44,45,46,47,48,49,50] (λs28 s29 s30 s31 s32 s33 s34 s35 s36 s37 s38 s39 s40 s41 s42 s43 s44 s45 s46 s47 s48 s49 dx wx=>dx=.bool false/\Below bo.heap.size bo wx)
 case first=>
  have HW:=lh9 (Below.refl bo.heap.size bo);have hb1:=bne_b ok;have hb2:=zlz ok;have hb3:=bne_b aq;have hb4:=zlz aq;have HA:Hid ((decide (0<=r)=true/\decide (r>=0)=true/\decide (r<(n:Int))=ok)\/(decide (0<=r)=false/\decide (r>=0)=false/\false=ok)):=zlj a2.out;have HE:Hid ((decide (0<=s)=true/\decide (s>=0)=true/\decide (s<(m:Int))=aq)\/(decide (0<=s)=false/\decide (s>=0)=false/\false=aq)):=zlj ao.out;obtain⟨p14_0,p14_1⟩:=N.out.c2;rcases HA.out with⟨d1,d2,d3⟩|⟨d1,d2,rfl⟩<;>rcases HE.out with⟨e1,e2,e3⟩|⟨e1,e2,rfl⟩<;>clear HA HE
  ·cases ok<;>cases aq
   ·go_wp2;go_meet;exact⟨rfl,HW.out⟩
   ·go_wp2;go_meet;exact⟨rfl,HW.out⟩
   ·go_wp2;go_meet;exact⟨rfl,HW.out⟩
   ·go_wp2;go_meet;exact⟨rfl,HW.out⟩
  ·cases ok
   ·go_wp2;go_meet;exact⟨rfl,HW.out⟩
   ·go_wp2;go_meet;exact⟨rfl,HW.out⟩
  ·cases aq
   ·go_wp2;go_meet;exact⟨rfl,HW.out⟩
   ·go_wp2;go_meet;exact⟨rfl,HW.out⟩
  ·go_wp2;go_meet;exact⟨rfl,HW.out⟩
 case rest=>
  obtain⟨rfl,hb⟩:=hcut;obtain⟨wk,du⟩:∃x,x=wc:=⟨_,rfl⟩;subst du;have HB:=lh9 (zac HB.out hb);have ah:=lh9 (ah.out.keep hb);have N:=lh9 (zad hb N.out);have Y:=lh9 (Y.out.keep hb);have ad:=lh9 (zad hb ad.out);have E:=lh9 (E.out.keep hb);have Z:=lh9 (zad hb Z.out);clear hb ;generalize wk=a3 at*;go_wp2_with fail;obtain⟨a5,a6⟩:=N.out.c2;have GG:=up9 a3 (λw' h=>(csc (zae h a5) (csc (zae h a6) csn)));refine rgB (λhHeld=>?_);clear a5 a6;refine tl 0 GG.out ?_;refine tl 1 GG.out ?_;refine tl 2 GG.out ?_;refine tl 4 GG.out ?_;refine tl 5 GG.out ?_;refine zaV (L:=#[true,true,true,true,true,true,true,true,true])
   (J:=fun a0 l a w' => ∃ (H I Q g : Bool) (T : oA9) (V G : Nat),l = #[true,true,true,H,true,true,I,Q,g] ∧ zcf [54,57,13] a0 a ∧ Hid (Below a3.heap.size a3 w') ∧
     Hid (Gd H (a.tmps.getD 54 undef=.slice T l1 V/\zbP w' T l1 V m (O1)))/\
     Hid (Gd I (a.tmps.getD 57 undef=.agg #[.slice T l1 V,.int .i64 (m:Int)]))/\
     Hid (Gd Q (a.tmps.getD 13 undef=.pointer (some ⟨G,0,none⟩)/\a3.heap.size<=G/\Blk w' G 36 (bif g then #[.slice T l1 V,.int .i64 (m:Int)] else #[.slice none 0 0,.int .i64 0])))/\
     Hid (Gd I (H=true))/\
     Hid (Gd g (H=true))/\
     Hid (Gd g (I=true))/\
     Hid (Gd g (Q=true)))
   (by rfl) ?_ ?_ ?_
  ·exact⟨false,false,false,false,none,0,0,kr9,zcf.refl _ _,hHeld,Gd.no,Gd.no,Gd.no,Gd.no,Gd.no,Gd.no,Gd.no⟩
  ·intro dr av Q0 hO be hA;have ct:av.tmps.getD 52 undef=.slice R n d:=(hA 52 undef).trans kr9;have cu:av.tmps.getD 53 undef=.int .i64 r:=(hA 53 undef).trans kr9;have cv:av.tmps.getD 56 undef=.int .i64 (m:Int):=(hA 56 undef).trans kr9;have hsz:av.tmps.size=90:=be.trans kr9;clear be hA;refine⟨?_,?_⟩
   ·rintro l a w' ⟨H,I,Q,g,T,V,G,rfl,-⟩ hr;obtain rfl:H=true:=als 3 hr hO;obtain rfl:I=true:=als 6 hr hO;obtain rfl:Q=true:=als 7 hr hO;obtain rfl:g=true:=als 8 hr hO;rfl
   ·rintro l a w' i ⟨H,I,Q,g,T,V,G,rfl,F,S,al,an,ag,ac,ai,aj,ak⟩ dt hi;have ds:i<9:=by have:=zbQ hi;rw [hO] at this;exact this
    rcases (show i=0\/i=1\/i=2\/i=3\/i=4\/i=5\/i=6\/i=7\/i=8 by omega) with rfl|rfl|rfl|rfl|rfl|rfl|rfl|rfl|rfl
    ·cases (zah hi:true=false)
    ·cases (zah hi:true=false)
    ·cases (zah hi:true=false)
    ·obtain rfl:H=false:=zah hi;obtain rfl:I=false:=Gd.off ac.out;obtain rfl:g=false:=Gd.off ai.out;have rd52:=F.get 52 de9 ct;have rd53:=F.get 53 de9 cu;have cr:=lh9 (ah.out.keep S.out);refine wog hO (λK' hK=>?_);go_simp;(with_reducible refine(b3.out _ cr.out).mono ?_);rintro e w2 ⟨cd,cf,rfl,bp,hb⟩;exact hK.out _ _ ⟨zac S.out hb,true,false,Q,false,cd,cf,G,by rfl,F.put de9 _,zac S.out hb,Gd.yes ⟨zaB (F.lt hs9) _,bp⟩,Gd.no,kq ag.out λh=>⟨h.1,zad hb h.2⟩,Gd.no,Gd.no,Gd.no,Gd.no⟩
    ·cases (zah hi:true=false)
    ·cases (zah hi:true=false)
    ·obtain rfl:I=false:=zah hi;obtain rfl:H=true:=rdp 3 0 hi hO;obtain rfl:g=false:=Gd.off aj.out;have dl:=al.out.get.1;have dm:=F.get 56 de9 cv;have dh:=dl;rw [Array.getD_eq_getD_getElem?] at dh;have di:=dm;rw [Array.getD_eq_getD_getElem?] at di;refine wog hO (λK' hK=>?_);go_simp;exact hK.out _ _ ⟨S.out,true,true,Q,false,T,V,G,by rfl,F.put de9 _,S.out,kq al.out λh=>(h),Gd.yes (zaB (F.lt hs9) _),kq ag.out id,λ_=>rfl,Gd.no,Gd.no,Gd.no⟩
    ·obtain rfl:Q=false:=zah hi;obtain rfl:g=false:=Gd.off ak.out;refine wog hO (λK' hK=>?_);go_simp;have hb:=zaY w' (.cells #[.slice none 0 0,.int .i64 0] 36);exact hK.out _ _ ⟨zac S.out hb,H,I,true,false,T,V,w'.heap.size,by rfl,F.put de9 _,zac S.out hb,kq al.out λh=>zbP.keep (h) hb,kq0 an.out,Gd.yes ⟨zaB (F.lt hs9) _,S.out.size,Blk.new w' _ _⟩,ac,Gd.no,Gd.no,Gd.no⟩
    ·obtain rfl:g=false:=zah hi;obtain rfl:H=true:=rdp 3 2 hi hO;obtain rfl:I=true:=rdp 6 1 hi hO;obtain rfl:Q=true:=rdp 7 0 hi hO;have rd13:=ag.out.get.1;have rd57:=an.out.get;obtain⟨_,hg,hk⟩:=ag.out.get;have hk:Blk w' G 36 #[.slice none 0 0,.int .i64 0]:=hk;obtain⟨dy,d0,dz,d4⟩:=st2 hk (.slice T l1 V);have ca:=sn2 hk (.slice T l1 V) (.int .i64 (m:Int));have bf:=bl2 (.slice T l1 V) (.int .i64 (m:Int)) hg S.out;refine wog hO (λK' hK=>?_);go_simp;exact hK.out _ _ ⟨bf,true,true,true,true,T,V,G,by rfl,F,bf,al.out.mono λh=>⟨h.1,zbP.offz (h.2) hk _ _⟩,an.out.mono λh=>h,ag.out.mono λh=>⟨h.1,h.2.1,ca⟩,λ_=>rfl,λ_=>rfl,λ_=>rfl,λ_=>rfl⟩
  rintro a ch ⟨H,I,Q,g,T,V,G,hl,F,S,al,an,ag,ac,ai,aj,ak⟩;have ci:H=true:=gdl 3 hl;subst ci;have cj:I=true:=gdl 6 hl;subst cj;have ck:Q=true:=gdl 7 hl;subst ck;have cl:g=true:=gdl 8 hl;subst cl;obtain⟨bj,au⟩:=al.out.get;have bk:=an.out.get;obtain⟨bl,b8,ax⟩:=ag.out.get;obtain rfl:=F.eq [(54,.slice T l1 V),(57,.agg #[.slice T l1 V,.int .i64 (m:Int)]),(13,.pointer (some ⟨G,0,none⟩))] rfl (by
   intro p hp;simp only [List.mem_cons,List.not_mem_nil,or_false] at hp;rcases hp with rfl|rfl|rfl
   ·exact bj
   ·exact bk
   ·exact bl)
  have ae:=S.out;clear hl S F al an ag ac ai aj ak bj bk bl;have ax:Blk ch G 36 #[.slice T l1 V,.int .i64 (m:Int)]:=ax;rw [show due #[true,true,true,true,true,true,true,true,true]=0 from rfl];simp only [zbY,List.foldl,Act.put,List.setIfInBounds_toArray,List.set_cons_zero,List.set_cons_succ];refine wpAnyH_done kr9 ?_ _;refine NoPanic.normal ?_;have HB:=lh9 (zac HB.out ae);have ah:=lh9 (ah.out.keep ae);have N:=lh9 (zad ae N.out);have Y:=lh9 (Y.out.keep ae);have ad:=lh9 (zad ae ad.out);have E:=lh9 (E.out.keep ae);have Z:=lh9 (zad ae Z.out);have P:=lh9 (au);obtain⟨adx118,b9⟩:∃x,x=G:=⟨_,rfl⟩;subst b9;have aa:=lh9 (ax);clear ae GG ax b8 au;obtain⟨br,bs⟩:=N.out.c2;go_wp2_with fail;clear br bs;(with_reducible refine(zdJ ah.out).mono ?_);rintro e bc ⟨ba,bd,rfl,bg,hb⟩;have HB:=lh9 (zac HB.out hb);have N:=lh9 (zad hb N.out);have Y:=lh9 (Y.out.keep hb);have ad:=lh9 (zad hb ad.out);have E:=lh9 (E.out.keep hb);have Z:=lh9 (zad hb Z.out);have P:=lh9 (P.out.keep hb);have aa:=lh9 (zad hb aa.out);have b2:=lh9 (bg);clear hb bg;obtain⟨f,ap,-⟩:=zaD bc 36 #[.slice ba m bd,.int .i64 (n:Int)];have HB:=lh9 (zac HB.out f);have N:=lh9 (zad f N.out);have Y:=lh9 (Y.out.keep f);have ad:=lh9 (zad f ad.out);have E:=lh9 (E.out.keep f);have Z:=lh9 (zad f Z.out);have P:=lh9 (P.out.keep f);have aa:=lh9 (zad f aa.out);have b2:=lh9 (b2.out.keep f);have bw:=lh9 (ap);clear f ap;go_wp2_with fail;generalize bc.alloc (.cells #[.slice ba m bd,.int .i64 (n:Int)] 36)=a4 at*;generalize bc.heap.size=q123 at*;obtain⟨a7,a8⟩:=bw.out.c2;have GG:=up9 a4 (λw' h=>(csc (zae h a7) (csc (zae h a8) csn)));refine rgB (λhHeld=>?_);clear a7 a8;refine tl 0 GG.out ?_;refine tl 1 GG.out ?_;refine tl 2 GG.out ?_;refine tl 4 GG.out ?_;refine tl 5 GG.out ?_;refine zaV (L:=#[true,true,true,true,true,true,true,true,true])
   (J:=fun a0 l a w' => ∃ (H I Q g : Bool) (U : oA9) (X G : Nat),l = #[true,true,true,H,true,true,I,Q,g] ∧ zcf [63,66,15] a0 a ∧ Hid (Below a4.heap.size a4 w') ∧
     Hid (Gd H (a.tmps.getD 63 undef=.slice U l2 X/\zbP w' U l2 X n (O2)))/\
     Hid (Gd I (a.tmps.getD 66 undef=.agg #[.slice U l2 X,.int .i64 (n:Int)]))/\
     Hid (Gd Q (a.tmps.getD 15 undef=.pointer (some ⟨G,0,none⟩)/\a4.heap.size<=G/\Blk w' G 36 (bif g then #[.slice U l2 X,.int .i64 (n:Int)] else #[.slice none 0 0,.int .i64 0])))/\
     Hid (Gd I (H=true))/\
     Hid (Gd g (H=true))/\
     Hid (Gd g (I=true))/\
     Hid (Gd g (Q=true)))
   (by rfl) ?_ ?_ ?_
  ·exact⟨false,false,false,false,none,0,0,kr9,zcf.refl _ _,hHeld,Gd.no,Gd.no,Gd.no,Gd.no,Gd.no,Gd.no,Gd.no⟩
  ·intro dr av Q0 hO be hA;have cw:av.tmps.getD 61 undef=.slice ba m bd:=(hA 61 undef).trans kr9;have cx:av.tmps.getD 62 undef=.int .i64 s:=(hA 62 undef).trans kr9;have cy:av.tmps.getD 65 undef=.int .i64 (n:Int):=(hA 65 undef).trans kr9;have hsz:av.tmps.size=90:=be.trans kr9;clear be hA;refine⟨?_,?_⟩
   ·rintro l a w' ⟨H,I,Q,g,U,X,G,rfl,-⟩ hr;obtain rfl:H=true:=als 3 hr hO;obtain rfl:I=true:=als 6 hr hO;obtain rfl:Q=true:=als 7 hr hO;obtain rfl:g=true:=als 8 hr hO;rfl
   ·rintro l a w' i ⟨H,I,Q,g,U,X,G,rfl,F,S,al,an,ag,ac,ai,aj,ak⟩ dt hi;have ds:i<9:=by have:=zbQ hi;rw [hO] at this;exact this
    rcases (show i=0\/i=1\/i=2\/i=3\/i=4\/i=5\/i=6\/i=7\/i=8 by omega) with rfl|rfl|rfl|rfl|rfl|rfl|rfl|rfl|rfl
    ·cases (zah hi:true=false)
    ·cases (zah hi:true=false)
    ·cases (zah hi:true=false)
    ·obtain rfl:H=false:=zah hi;obtain rfl:I=false:=Gd.off ac.out;obtain rfl:g=false:=Gd.off ai.out;have rd61:=F.get 61 de9 cw;have rd62:=F.get 62 de9 cx;have cs:=lh9 (b2.out.keep S.out);refine wog hO (λK' hK=>?_);go_simp;(with_reducible refine(b4.out _ _ _ cs.out).mono ?_);rintro e w2 ⟨ce,cg,rfl,bq,hb⟩;exact hK.out _ _ ⟨zac S.out hb,true,false,Q,false,ce,cg,G,by rfl,F.put de9 _,zac S.out hb,Gd.yes ⟨zaB (F.lt hs9) _,bq⟩,Gd.no,kq ag.out λh=>⟨h.1,zad hb h.2⟩,Gd.no,Gd.no,Gd.no,Gd.no⟩
    ·cases (zah hi:true=false)
    ·cases (zah hi:true=false)
    ·obtain rfl:I=false:=zah hi;obtain rfl:H=true:=rdp 3 0 hi hO;obtain rfl:g=false:=Gd.off aj.out;have dn:=al.out.get.1;have dp:=F.get 65 de9 cy;have dj:=dn;rw [Array.getD_eq_getD_getElem?] at dj;have dk:=dp;rw [Array.getD_eq_getD_getElem?] at dk;refine wog hO (λK' hK=>?_);go_simp;exact hK.out _ _ ⟨S.out,true,true,Q,false,U,X,G,by rfl,F.put de9 _,S.out,kq al.out λh=>(h),Gd.yes (zaB (F.lt hs9) _),kq ag.out id,λ_=>rfl,Gd.no,Gd.no,Gd.no⟩
    ·obtain rfl:Q=false:=zah hi;obtain rfl:g=false:=Gd.off ak.out;refine wog hO (λK' hK=>?_);go_simp;have hb:=zaY w' (.cells #[.slice none 0 0,.int .i64 0] 36);exact hK.out _ _ ⟨zac S.out hb,H,I,true,false,U,X,w'.heap.size,by rfl,F.put de9 _,zac S.out hb,kq al.out λh=>zbP.keep (h) hb,kq0 an.out,Gd.yes ⟨zaB (F.lt hs9) _,S.out.size,Blk.new w' _ _⟩,ac,Gd.no,Gd.no,Gd.no⟩
    ·obtain rfl:g=false:=zah hi;obtain rfl:H=true:=rdp 3 2 hi hO;obtain rfl:I=true:=rdp 6 1 hi hO;obtain rfl:Q=true:=rdp 7 0 hi hO;have rd15:=ag.out.get.1;have rd66:=an.out.get;obtain⟨_,hg,hk⟩:=ag.out.get;have hk:Blk w' G 36 #[.slice none 0 0,.int .i64 0]:=hk;obtain⟨dy,d0,dz,d4⟩:=st2 hk (.slice U l2 X);have ca:=sn2 hk (.slice U l2 X) (.int .i64 (n:Int));have bf:=bl2 (.slice U l2 X) (.int .i64 (n:Int)) hg S.out;refine wog hO (λK' hK=>?_);go_simp;exact hK.out _ _ ⟨bf,true,true,true,true,U,X,G,by rfl,F,bf,al.out.mono λh=>⟨h.1,zbP.offz (h.2) hk _ _⟩,an.out.mono λh=>h,ag.out.mono λh=>⟨h.1,h.2.1,ca⟩,λ_=>rfl,λ_=>rfl,λ_=>rfl,λ_=>rfl⟩
  rintro a K ⟨H,I,Q,g,U,X,G,hl,F,S,al,an,ag,ac,ai,aj,ak⟩;have ci:H=true:=gdl 3 hl;subst ci;have cj:I=true:=gdl 6 hl;subst cj;have ck:Q=true:=gdl 7 hl;subst ck;have cl:g=true:=gdl 8 hl;subst cl;obtain⟨bj,au⟩:=al.out.get;have bk:=an.out.get;obtain⟨bl,b8,ax⟩:=ag.out.get;obtain rfl:=F.eq [(63,.slice U l2 X),(66,.agg #[.slice U l2 X,.int .i64 (n:Int)]),(15,.pointer (some ⟨G,0,none⟩))] rfl (by
   intro p hp;simp only [List.mem_cons,List.not_mem_nil,or_false] at hp;rcases hp with rfl|rfl|rfl
   ·exact bj
   ·exact bk
   ·exact bl)
  have ae:=S.out;clear hl S F al an ag ac ai aj ak bj bk bl;have ax:Blk K G 36 #[.slice U l2 X,.int .i64 (n:Int)]:=ax;rw [show due #[true,true,true,true,true,true,true,true,true]=0 from rfl];simp only [zbY,List.foldl,Act.put,List.setIfInBounds_toArray,List.set_cons_zero,List.set_cons_succ];refine wpAnyH_done kr9 ?_ _;refine NoPanic.normal ?_;have HB:=lh9 (zac HB.out ae);have N:=lh9 (zad ae N.out);have Y:=lh9 (Y.out.keep ae);have ad:=lh9 (zad ae ad.out);have E:=lh9 (E.out.keep ae);have Z:=lh9 (zad ae Z.out);have P:=lh9 (P.out.keep ae);have aa:=lh9 (zad ae aa.out);have af:=lh9 (au);obtain⟨adx127,b9⟩:∃x,x=G:=⟨_,rfl⟩;subst b9;have aw:=lh9 (ax);clear ae GG ax b8 au;go_wp2_with fail;cases ok<;>cases aq
  ·clear Y;clear E;obtain⟨j,k⟩:=ad.out.c2;obtain⟨o,t⟩:=aa.out.c2;obtain⟨u,v⟩:=Z.out.c2;obtain⟨y,B⟩:=aw.out.c2;obtain⟨C,D⟩:=N.out.c2;have ab:=(Below.refl K.heap.size K).drew;have HB:=lh9 (zac HB.out ab);refine rg (csc j (csc k (csc o (csc t (csc u (csc v (csc y (csc B (csc C (csc D csn)))))))))) (λhHeld=>?_);clear ab j k o t u v y B C D;generalize K.drew=bb at*;refine tk 0 ?_;refine tk 1 ?_;refine tk 2 ?_;refine tu 3 ?_;refine tu 4 ?_;refine tu 5 ?_;refine tk 6 ?_;refine tk 7 ?_;refine tk 8 ?_;refine tk 9 ?_;refine tk 10 ?_;refine tu 11 ?_;refine tu 12 ?_;refine tu 13 ?_;refine tu 14 ?_;refine tk 15 ?_;refine tk 16 ?_;refine tu 17 ?_;refine tu 18 ?_;refine tu 19 ?_;refine tu 20 ?_;refine tk 21 ?_;refine tk 22 ?_;refine tk 23 ?_;refine rdn ?_;clear hHeld;go_wp2;go_ret;exact⟨rfl,HB.out⟩
  ·clear Y;obtain⟨h3,h4⟩:=zdZ ao.out;obtain⟨rfl,rfl,ar⟩:=E.out rfl;have am:=lh9 ar;clear ar E;obtain rfl:O2=(zba n m M).eraseIdx s.toNat:=by have h5:=cq.out;rw [h3,zhi (zbO n m M).rows h4] at h5;exact h5.symm
   obtain rfl:p2=l2:=by rw [<-co.out,<-a1.out,List.length_eraseIdx,(zbO n m M).rows,if_pos h4]
   have b1:Hid (zay 1 (zbT n p2 λa b=>if b<s.toNat then atM M a b else atM M a (b+1))):=zay.tab λa b h5 h6=>by have h7:=a1.out;split;exact HX.out.at_ HD.out h5 om9;exact HX.out.at_ HD.out h5 om9
   have bu:Hid (zba p2 n ((zba n m M).eraseIdx s.toNat)=zbT n p2 λa b=>if b<s.toNat then atM M a b else atM M a (b+1)):=by show _=_;rw [<-a1.out];exact zjj h4
   clear h3 h4;obtain⟨j,k⟩:=ad.out.c2;obtain⟨o,t⟩:=aa.out.c2;obtain⟨u,v⟩:=Z.out.c2;obtain⟨y,B⟩:=aw.out.c2;obtain⟨C,D⟩:=N.out.c2;have ab:=(Below.refl K.heap.size K).drew;have HB:=lh9 (zac HB.out ab);have af:=lh9 (af.out.keep ab);have am:=lh9 (am.out.keep ab);refine rg (csc j (csc k (csc o (csc t (csc u (csc v (csc y (csc B (csc C (csc D csn)))))))))) (λhHeld=>?_);clear ab j k o t u v y B C D;generalize K.drew=bb at*;refine tk 0 ?_;refine tk 1 ?_;refine tk 2 ?_;refine tu 3 ?_;refine tu 4 ?_;refine tu 5 ?_;refine tk 6 ?_;refine tk 7 ?_;refine tk 8 ?_;refine tk 9 ?_;refine tk 10 ?_;refine tk 11 ?_;refine tk 12 ?_;refine rc 13 (λKK hK=>?_);go_simp;(with_reducible refine(zdJ af.out).mono ?_);rintro e X135 ⟨A134,c134,rfl,bh,hb⟩;refine hK.out _ _ (Cs.below hHeld hb) (λhHeld=>?_);clear hK KK;have HB:=lh9 (zac HB.out hb);have am:=lh9 (am.out.keep hb);have bz:=lh9 (bu.out▸bh);clear hb bh;refine rc 14 (λKK hK=>?_);go_simp;(with_reducible refine(zbq (HT.out _ HB.out) am.out bz.out b1.out).mono ?_);rintro e c0 ⟨rfl,hb⟩;refine hK.out _ _ (Cs.below hHeld hb) (λhHeld=>?_);clear hK KK;have HB:=lh9 (zac HB.out hb);clear hb ;refine tk 15 ?_;refine tk 16 ?_;refine tu 17 ?_;refine tu 18 ?_;refine tu 19 ?_;refine tu 20 ?_;refine tk 21 ?_;refine tk 22 ?_;refine tk 23 ?_;refine rdn ?_;clear hHeld;go_wp2;go_ret;exact⟨rfl,HB.out⟩
  ·obtain⟨h1,h2⟩:=zdZ a2.out;obtain⟨rfl,rfl,ar⟩:=Y.out rfl;have az:=lh9 ar;clear ar Y;obtain rfl:O1=M.eraseIdx r.toNat:=by have h3:=cp.out;rw [h1,zhi HD.out.rows h2] at h3;exact h3.symm
   obtain rfl:p1=l1:=by rw [<-cn.out,<-bx.out,List.length_eraseIdx,HD.out.rows,if_pos h2]
   have b0:Hid (zay 1 (M.eraseIdx r.toNat)):=λL hL=>HX.out L (List.mem_of_mem_eraseIdx hL);clear h1 h2;clear E;obtain⟨j,k⟩:=ad.out.c2;obtain⟨o,t⟩:=aa.out.c2;obtain⟨u,v⟩:=Z.out.c2;obtain⟨y,B⟩:=aw.out.c2;obtain⟨C,D⟩:=N.out.c2;have ab:=(Below.refl K.heap.size K).drew;have HB:=lh9 (zac HB.out ab);have P:=lh9 (P.out.keep ab);have az:=lh9 (az.out.keep ab);refine rg (csc j (csc k (csc o (csc t (csc u (csc v (csc y (csc B (csc C (csc D csn)))))))))) (λhHeld=>?_);clear ab j k o t u v y B C D;generalize K.drew=bb at*;refine tk 0 ?_;refine tk 1 ?_;refine tk 2 ?_;refine tk 3 ?_;refine tk 4 ?_;refine rc 5 (λKK hK=>?_);go_simp;(with_reducible refine(zbq (HT.out _ HB.out) az.out P.out b0.out).mono ?_);rintro e cz ⟨rfl,hb⟩;refine hK.out _ _ (Cs.below hHeld hb) (λhHeld=>?_);clear hK KK;have HB:=lh9 (zac HB.out hb);clear hb ;refine tk 6 ?_;refine tk 7 ?_;refine tk 8 ?_;refine tk 9 ?_;refine tk 10 ?_;refine tu 11 ?_;refine tu 12 ?_;refine tu 13 ?_;refine tu 14 ?_;refine tk 15 ?_;refine tk 16 ?_;refine tu 17 ?_;refine tu 18 ?_;refine tu 19 ?_;refine tu 20 ?_;refine tk 21 ?_;refine tk 22 ?_;refine tk 23 ?_;refine rdn ?_;clear hHeld;go_wp2;go_ret;exact⟨rfl,HB.out⟩
  ·obtain⟨h1,h2⟩:=zdZ a2.out;obtain⟨rfl,rfl,ar⟩:=Y.out rfl;have az:=lh9 ar;clear ar Y;obtain rfl:O1=M.eraseIdx r.toNat:=by have h3:=cp.out;rw [h1,zhi HD.out.rows h2] at h3;exact h3.symm
   obtain rfl:p1=l1:=by rw [<-cn.out,<-bx.out,List.length_eraseIdx,HD.out.rows,if_pos h2]
   have b0:Hid (zay 1 (M.eraseIdx r.toNat)):=λL hL=>HX.out L (List.mem_of_mem_eraseIdx hL);clear h1 h2;obtain⟨h3,h4⟩:=zdZ ao.out;obtain⟨rfl,rfl,ar⟩:=E.out rfl;have am:=lh9 ar;clear ar E;obtain rfl:O2=(zba n m M).eraseIdx s.toNat:=by have h5:=cq.out;rw [h3,zhi (zbO n m M).rows h4] at h5;exact h5.symm
   obtain rfl:p2=l2:=by rw [<-co.out,<-a1.out,List.length_eraseIdx,(zbO n m M).rows,if_pos h4]
   have b1:Hid (zay 1 (zbT n p2 λa b=>if b<s.toNat then atM M a b else atM M a (b+1))):=zay.tab λa b h5 h6=>by have h7:=a1.out;split;exact HX.out.at_ HD.out h5 om9;exact HX.out.at_ HD.out h5 om9
   have bu:Hid (zba p2 n ((zba n m M).eraseIdx s.toNat)=zbT n p2 λa b=>if b<s.toNat then atM M a b else atM M a (b+1)):=by show _=_;rw [<-a1.out];exact zjj h4
   clear h3 h4;obtain⟨j,k⟩:=ad.out.c2;obtain⟨o,t⟩:=aa.out.c2;obtain⟨u,v⟩:=Z.out.c2;obtain⟨y,B⟩:=aw.out.c2;obtain⟨C,D⟩:=N.out.c2;have ab:=(Below.refl K.heap.size K).drew;have HB:=lh9 (zac HB.out ab);have P:=lh9 (P.out.keep ab);have af:=lh9 (af.out.keep ab);have az:=lh9 (az.out.keep ab);have am:=lh9 (am.out.keep ab);refine rg (csc j (csc k (csc o (csc t (csc u (csc v (csc y (csc B (csc C (csc D csn)))))))))) (λhHeld=>?_);clear ab j k o t u v y B C D;generalize K.drew=bb at*;refine tk 0 ?_;refine tk 1 ?_;refine tk 2 ?_;refine tk 3 ?_;refine tk 4 ?_;refine rc 5 (λKK hK=>?_);go_simp;(with_reducible refine(zbq (HT.out _ HB.out) az.out P.out b0.out).mono ?_);rintro e cz ⟨rfl,hb⟩;refine hK.out _ _ (Cs.below hHeld hb) (λhHeld=>?_);clear hK KK;have HB:=lh9 (zac HB.out hb);have af:=lh9 (af.out.keep hb);have am:=lh9 (am.out.keep hb);clear hb ;refine tk 6 ?_;refine tk 7 ?_;refine tk 8 ?_;refine tk 9 ?_;refine tk 10 ?_;refine tk 11 ?_;refine tk 12 ?_;refine rc 13 (λKK hK=>?_);go_simp;(with_reducible refine(zdJ af.out).mono ?_);rintro e c0 ⟨A135,c135,rfl,bi,hb⟩;refine hK.out _ _ (Cs.below hHeld hb) (λhHeld=>?_);clear hK KK;have HB:=lh9 (zac HB.out hb);have am:=lh9 (am.out.keep hb);have bz:=lh9 (bu.out▸bi);clear hb bi;refine rc 14 (λKK hK=>?_);go_simp;(with_reducible refine(zbq (HT.out _ HB.out) am.out bz.out b1.out).mono ?_);rintro e X137 ⟨rfl,hb⟩;refine hK.out _ _ (Cs.below hHeld hb) (λhHeld=>?_);clear hK KK;have HB:=lh9 (zac HB.out hb);clear hb ;refine tk 15 ?_;refine tk 16 ?_;refine tu 17 ?_;refine tu 18 ?_;refine tu 19 ?_;refine tu 20 ?_;refine tk 21 ?_;refine tk 22 ?_;refine tk 23 ?_;refine rdn ?_;clear hHeld;go_wp2;go_ret;exact⟨rfl,HB.out⟩
