/- What this claim leans on. -/
import Derived.Test.YtghpdeciaaagnaaGreatDoorQVCmp
namespace Go.Proofs.YtghpdeciaaagnaaGreatDoor
open Go Go.RowKit Go.Proofs.Tryz
set_option maxHeartbeats 16000000
set_option maxRecDepth 100000
set_option linter.unusedVariables false
set_option linter.unusedSimpArgs false
theorem zkw {r:Int}{n:Nat}{b:Bool}(e:inB r n=b)(A:oA9)(c:Nat)(z:Int)(w:World):Calls prog 84 #[.agg #[.slice A n c,.int .i64 z],.int .i64 r] w (λe w'=>e=.returned (.bool b)/\Below w.heap.size w w'):=e▸zoC A n c z r w
theorem zqy {r:Int}{m:Nat}{b:Bool}(e:inB r m=b)(A:oA9)(n c:Nat)(w:World):Calls prog 121 #[.agg #[.slice A n c,.int .i64 (m:Int)],.int .i64 r] w (λe w'=>e=.returned (.bool b)/\Below w.heap.size w w'):=e▸zoB A n c m r w
section
variable {A:oA9}{n c m K:Nat}{MM:List (List Rat)}{w:World}
theorem zlA {i j:Nat}(hT:zai w)(h:zbL w A n c m MM)(z:zaO K MM)(hi:i<n)(hj:j<m)(hK:K+2<=67108864:=by omega):
  Calls prog 52 #[.agg #[.slice A n c,.int .i64 (m:Int)],.int .i64 (i:Int),.int .i64 (j:Int)] w (zaE w (atM MM i j)):=by
 have HR:=λW=>lh9 (zkw (zlv hi) A c (m:Int) W);have HC:=λW=>lh9 (zqy (zlv hj) A n c W);obtain⟨E,l,F,bz⟩:=zbO w 28 41 #[.slice A n c,.int .i64 (m:Int)] #[.bool false,.slice none 0 0,.slice none 0 0];obtain⟨g0,g1⟩:=l.c2;have HM:=lh9 h;have HS:=lh9 (z.at_ h.dims hi hj);have HT:=up9 w (λw' hb=>hT.on hb);have HB:=lh9 E;have r:=lh9 l;have s:=lh9 F;clear hT h z E l F bz;go_enter func52,ntmps52;go_wp2_with fail;refine(HR _).out.mono ?_;rintro e w1 ⟨rfl,hb⟩;have o:=lh9 (zaa HB.out hb);have k:=lh9 (zab hb r.out);have t:=lh9 (zab hb s.out);obtain⟨g0,g1⟩:=k.out.c2;clear hb HB r s;go_wp2_with fail;refine(HC _).out.mono ?_;rintro e w2 ⟨rfl,hb⟩;have f:=lh9 (zaa o.out hb);have u:=lh9 (zab hb k.out);have C:=lh9 (zab hb t.out);obtain⟨g0,g1⟩:=u.out.c2;clear hb o k t;obtain⟨ad,B,d,rfl,-,hc,ae,b3,A3,n3,c3,E3,k3,f3,rfl,-,h0,h1,h2,G⟩:=HM.out.place f.out hi hj;have i1:(0:Int)<=(i:Int):=om9;have i2:(i:Int)<(n:Int):=om9;have i3:(0:Int)<=(j:Int):=om9;have i4:(j:Int)<(m:Int):=om9;obtain⟨t1,t2,-⟩:=zax w2 41 #[.bool b3,.slice A3 n3 c3,.slice E3 k3 f3];have HL:=lh9 (znB t2 (G.below t1));have g:=lh9 (zaa f.out t1);have D:=lh9 (zab t1 C.out);have H:Hid (zat K [atM MM i j]):=λy hy=>by rw [List.mem_singleton.1 hy];exact HS.out
 clear G t1 t2 u C f;go_wp2_with fail;(with_reducible refine(q_sum (HT.out _ g.out) HL.out H.out de9 om9).mono ?_);rintro e w5 ⟨b5,A5,n5,c5,E5,k5,f5,rfl,a,hb⟩;have a:zaf w5 (atM MM i j) b5 A5 n5 c5 E5 k5 f5:=by
  have e:zdO [atM MM i j]=atM MM i j:=by rw [zfu,zkW,Rat.add_zero]
  rw [e] at a;exact a
 have b:=zab hb D.out;obtain⟨sc0,sf0,sc1,sf1,sc2,sf2⟩:=st3 b (.bool b5) (.slice A5 n5 c5);obtain⟨r0,r1,r2⟩:=(sn3 b (.bool b5) (.slice A5 n5 c5) (.slice E5 k5 f5)).c3;have HG:=lh9 (gq3 a b (zaa g.out hb) om9);clear hb b a D g HL g0 g1 hc h0 h1 h2;go_wp2;refine bodyPost_ret (v:=.agg #[.bool b5,.slice A5 n5 c5,.slice E5 k5 f5]) (by simp [results,results52,go_sem,r0,r1,r2]) rfl ?_;exact HG.out
theorem zlB {i:Nat}(hT:zai w)(h:zbL w A n c m MM)(z:zaO K MM)(hi:i<n)(hK:K+2<=67108864:=by omega):
  Calls prog 25 #[.agg #[.slice A n c,.int .i64 (m:Int)],.int .i64 (i:Int)] w (zdg w m (MM.getD i [])):=by
 have hm:=h.hm;obtain⟨f,b,bz⟩:=zax w 28 #[.slice A n c,.int .i64 (m:Int)];obtain⟨g0,g1⟩:=b.c2;have HR:=λW=>lh9 (zkw (zlv hi) A c (m:Int) W);have HM:=lh9 h;have HT:=up9 w (λw' hb=>hT.on hb);have HS:=lh9 (z.row (i:=i) (by rw [h.dims.rows];exact hi));have HB:=lh9 f;have HK:=lh9 b;clear hT h z f b bz;unfold zdg;go_enter func25,ntmps25;go_wp2_with fail;refine(HR _).out.mono ?_;rintro e w1 ⟨rfl,hb⟩;have a:=lh9 (zaa HB.out hb);obtain⟨g0,g1⟩:=(zab hb HK.out).c2;obtain⟨ad,B,d,rfl,-,hc,hv⟩:=HM.out.row a.out hi;have i1:(0:Int)<=(i:Int):=om9;have i2:(i:Int)<(n:Int):=om9;have HV:=lh9 hv;clear hb HB HK hv;go_wp2_with fail;(with_reducible refine(znA (HT.out _ a.out) HV.out HS.out).mono ?_);rintro e w5 ⟨g5,rfl,g,j,hb⟩;have HG:=lh9 (And.intro (Nat.le_trans a.out.size g) (And.intro j (zaa a.out hb)));clear g0 g1 g j hb hc;go_wp2
 go_ret2
 exact⟨g5,rfl,HG.out⟩
end
section
variable {A A':oA9}{n n' c c' m m' K K' q q':Nat}{MM NN:List (List Rat)}{w:World}
theorem en_vsame:∀(args:Array Value) (w':World),Sem.run prog (callFunc 50 args) w'=.ok (.enter 50 args) w':=Go.Proofs.enters_of func50 kr9 rfl
theorem same_len {α:Type}{xs ys:List α}{n n':Nat}(hx:xs.length=n)(hy:ys.length=n')(h:n≠n'):xs≠ys:=λe=>h (by rw [<-hx,<-hy,e])
theorem same_at {xs ys:List (List Rat)}{n k:Nat}(hx:xs.length=n)(hy:ys.length=n)(hk:k<n)(h:xs.getD k []≠ys.getD k []):xs≠ys:=λe=>h (by rw [e])
theorem same_all {xs ys:List (List Rat)}{n:Nat}(hx:xs.length=n)(hy:ys.length=n)(h:∀k,k<n->xs.getD k []=ys.getD k []):xs=ys:=by
 apply List.ext_getElem
 ·omega
 ·intro i h1 h2;have:=h i om9;rw [List.getD_eq_getElem?_getD,List.getD_eq_getElem?_getD,List.getElem?_eq_getElem h1,List.getElem?_eq_getElem h2] at this;exact this
theorem zof {t:Bool}(e:decide (MM=NN)=t)(hT:zai w)(h:zaC (zaM zaf) w A n MM)(h':zaC (zaM zaf) w A' n' NN)(z:zaO K MM)(z':zaO K' NN)(hr:∀L ∈ MM,L.length<=64)(v:∀L ∈ NN,L.length<=64)(hn:n<=64)(hK:K<=67108864)(y:K'<=67108864):
  Calls prog 98 #[.slice A n q,.slice A' n' q',.func (.func 50) #[] #[]] w (λe w'=>e=.returned (.bool t)/\Below w.heap.size w w'):=by
 have hl:=h.len;have f:=h'.len;have hEn:=en_vsame;by_cases hq:n=n'
 ·subst hq;have HA:=lh9 h;have F:=lh9 h';have HT:=up9 w (λw' hb=>hT.on hb);have HS:Hid (∀i,i<n->zat K (MM.getD i [])):=λi hi=>z.row om9;have J:Hid (∀i,i<n->zat K' (NN.getD i [])):=λi hi=>z'.row om9;have HR:Hid (∀i,i<n->(MM.getD i []).length<=64):=λi hi=>hr _ (List.mem_of_getElem? (zbi om9));have I:Hid (∀i,i<n->(NN.getD i []).length<=64):=λi hi=>v _ (List.mem_of_getElem? (zbi om9));have H:Hid (∀k,k<n->MM.getD k []≠NN.getD k []->false=t):=λk hk O=>by
   rw [<-e];exact(decide_eq_false (same_at hl f hk O)).symm
  have G:Hid ((∀k,k<n->MM.getD k []=NN.getD k [])->true=t):=λha=>by
   rw [<-e];exact(decide_eq_true (same_all hl f ha)).symm
  have hB:=Below.refl w.heap.size w;have e0:((n:Int) !=(n:Int))=false:=si9;have i0:(0:Int)<=(n:Int):=om9;clear h h' hT z z' hr v e hl f;go_enter func98,ntmps98;go_wp2_with fail
  go_loopg [17] (n+1) (λg ix wr=>∃(k:Nat),k<=n/\n<g+k/\ix=.int .i64 k/\Hid (∀i,i<k->MM.getD i []=NN.getD i [])/\Below w.heap.size w wr)
  case atStart=>exact⟨0,Nat.zero_le _,om9,rfl,λi hi=>by omega,hB⟩
  case round=>
   clear hB;obtain⟨k,hkn,hg,rfl,E,hB⟩:=hrel;by_cases hlt:k<n
   ·obtain⟨ad,B,d,rfl,-,hc,hv⟩:=HA.out.get (zaA zak) hB hlt rfl;obtain⟨ad',B',d',rfl,-,m,o⟩:=F.out.get (zaA zak) hB hlt rfl;have N:decide ((k:Int)<(n:Int))=true:=decide_eq_true om9;have i1:(0:Int)<=(k:Int):=om9;have i2:(k:Int)<(n:Int):=om9;have h5:=HR.out k hlt;have h6:=I.out k hlt;have r:=lh9 (H.out k hlt);have s:=lh9 (HS.out k hlt);have c:=lh9 (J.out k hlt);have u:Hid (MM.getD k []=NN.getD k []->∀i,i<k+1->MM.getD i []=NN.getD i []):=λhh i hi=>by
     by_cases e:i=k
     ·rw [e];exact hh
     ·exact E.out i om9
    obtain⟨X,hX⟩:∃X,MM.getD k []=X:=⟨_,rfl⟩;obtain⟨Y,hY⟩:∃Y,NN.getD k []=Y:=⟨_,rfl⟩;rw [hX] at hc hv h5 r s u;rw [hY] at m o h6 r c u;obtain⟨lx,C⟩:∃l,X.length=l:=⟨_,rfl⟩;obtain⟨ly,D⟩:∃l,Y.length=l:=⟨_,rfl⟩;rw [C] at hc hv h5;rw [D] at m o h6;have HV:=lh9 hv;have j:=lh9 o;have a:=lh9 hB;clear hX hY hv o C D hB;by_cases h0:X=Y
    ·have HQ:=lh9 (decide_eq_true h0);have M:=lh9 (u.out h0);clear h0;go_wp2_with fail;(with_reducible refine(zeq HQ.out (HT.out _ a.out) HV.out j.out s.out c.out om9 om9 hK y).mono ?_);rintro e w3 ⟨rfl,hb⟩;have b:=lh9 (zaa a.out hb);clear hb hc m HV j a;go_wp2;go_roundg (n - k)
     case measure=>omega
     case rel=>exact⟨k+1,om9,om9,by go_num,M,b.out⟩
    ·have HQ:=lh9 (decide_eq_false h0);have HF:=lh9 (r.out h0);clear h0;go_wp2_with fail;(with_reducible refine(zeq HQ.out (HT.out _ a.out) HV.out j.out s.out c.out om9 om9 hK y).mono ?_);rintro e w3 ⟨rfl,hb⟩;have b:=lh9 (zaa a.out hb);clear hb hc m HV j a;go_wp2;go_ret;exact⟨by rw [<-HF.out];rfl,b.out⟩
   ·have hk:k=n:=om9;subst hk;have N:decide ((k:Int)<(k:Int))=false:=si9;have HF:=lh9 (G.out E.out);have b:=lh9 hB;clear hB;go_wp2;go_ret;exact⟨by rw [<-HF.out];rfl,b.out⟩
 ·have e0:((n:Int) !=(n':Int))=true:=by rw [bne_iff_ne];omega
  have HF:Hid (false=t):=by rw [<-e];exact(decide_eq_false (same_len hl f hq)).symm
  clear h h' hT z z' hr v e hl f hq;go_enter func98,ntmps98;go_wp2;go_ret;exact⟨by rw [<-HF.out];rfl,Below.refl _ _⟩
theorem mat_same {t:Bool}(e:decide (m=m'/\MM=NN)=t)(hT:zai w)(h:zbL w A n c m MM)(h':zbL w A' n' c' m' NN)(z:zaO K MM)(z':zaO K' NN)(hK:K<=67108864:=by omega)(g:K'<=67108864:=by omega):
  Calls prog 35 #[.agg #[.slice A n c,.int .i64 (m:Int)],.agg #[.slice A' n' c',.int .i64 (m':Int)]] w (λe w'=>e=.returned (.bool t)/\Below w.heap.size w w'):=by
 obtain⟨a,b,d,bz⟩:=zbO w 28 28 #[.slice A n c,.int .i64 (m:Int)] #[.slice A' n' c',.int .i64 (m':Int)];obtain⟨g0,g1⟩:=b.c2;obtain⟨p0,p1⟩:=d.c2;by_cases hq:m=m'
 ·have e0:((m:Int)==(m':Int))=true:=by rw [beq_iff_eq];omega
  have e1:decide (MM=NN)=t:=by
   rw [<-e];by_cases hx:MM=NN
   ·rw [decide_eq_true hx,decide_eq_true ⟨hq,hx⟩]
   ·rw [decide_eq_false hx,decide_eq_false (λy=>hx y.2)]
  have hx:=h.hm;have hy:=h'.hm;have H:=lh9 (zof (q:=c) (q':=c') e1 (hT.on a) (h.keep a).rows (h'.keep a).rows z z' (λL hL=>by rw [h.dims.cols L hL];exact hx) (λL hL=>by rw [h'.dims.cols L hL];exact hy) h.hn hK g);have HB:=lh9 a;clear h h' hT z z' a b d bz e e1 hq;go_enter func35,ntmps35;go_wp2_with fail;refine H.out.mono ?_;rintro e w1 ⟨rfl,hb⟩;have f:=lh9 (zaa HB.out hb);clear hb g0 g1 p0 p1;go_wp2;go_ret;exact⟨rfl,f.out⟩
 ·have e0:((m:Int)==(m':Int))=false:=by rw [beq_eq_false_iff_ne];omega
  have HF:Hid (false=t):=by rw [<-e];exact(decide_eq_false (λy=>hq y.1)).symm
  have HB:=lh9 a;clear h h' hT z z' a b d bz e hq;go_enter func35,ntmps35;go_wp2;go_ret;exact⟨by rw [<-HF.out];rfl,HB.out⟩
end
theorem zlG {L n m k:Nat}{S:List (List Rat)}(z:zaO L S)(hd:zaY S n m)(hk:k<=n)(hm:k<=m)(hL:1<=L):SzQ L (prF (atM S) k):=by
 unfold prF
 split
 ·exact(LI.one.up hL).szq hL
 ·exact z.at_ hd om9 om9
theorem clr_zero {a p x:Rat}{ys zs:List Rat}(hx:x=0)(hl:ys.length=zs.length):zau (a / p) ys=zau p⁻¹ (zdn (zau a ys) (-x) zs):=by
 have e:∀{L M:List Rat},L.length=M.length->(∀j,j<L.length->L.getD j 0=M.getD j 0)->L=M:=fun{L M} h1 h2=>by
  apply List.ext_getElem h1;intro j a b;have:=h2 j a;rw [List.getD_eq_getElem?_getD,List.getD_eq_getElem?_getD,List.getElem?_eq_getElem a,List.getElem?_eq_getElem b] at this;exact this
 have l1:(zau a ys).length=ys.length:=by unfold zau;rw [List.length_map]
 refine e (by unfold zau zdn;rw [List.length_map,List.length_map,List.length_zipWith,List.length_map,hl,Nat.min_self]) λj hj=>?_;have hj:j<ys.length:=by unfold zau at hj;rw [List.length_map] at hj;exact hj
 rw [zct,zct,ziZ (by rw [l1];exact hj) om9,zct,hx]
 grind
section
variable {w:World}{Q:oA9}{n q m k L:Nat}{S:List (List Rat)}
theorem ziJ (h:zaC (zaM zaf) w Q n S)(hd:zaY S n m)(hk:k<n)(f:k<m):
  Calls prog 111 #[.slice Q n q,.int .i64 (k:Int)] w (zaE w (atM S k k)):=by
 obtain⟨a,c,-⟩:=zax w 41 #[.bool false,.slice none 0 0,.slice none 0 0];obtain⟨ad,C,d,rfl,-,h0,hv⟩:=h.get (zaA zak) a hk (hd.row hk);have hv:zaH _ C m d (S.getD k []):=hv;obtain⟨ae,b1,B1,m1,d1,E1,u1,v1,rfl,-,q0,q1,q2,hx⟩:=hv.get (Below.refl _ _) f;have hx:zaf _ (atM S k k) b1 B1 m1 d1 E1 u1 v1:=hx;have i1:(0:Int)<=(k:Int):=om9;have i2:(k:Int)<(n:Int):=om9;have i3:(k:Int)<(m:Int):=om9;have d9:decide ((k:Int)<0)=false:=decide_eq_false om9;obtain⟨sc0,sf0,sc1,sf1,sc2,sf2⟩:=st3 c (.bool b1) (.slice B1 m1 d1);obtain⟨r0,r1,r2⟩:=(zax w 41 #[.bool b1,.slice B1 m1 d1,.slice E1 u1 v1]).2.1.c3;have g:=lh9 (zax w 41 #[.bool b1,.slice B1 m1 d1,.slice E1 u1 v1]).1;have HX:Hid (zaf (w.alloc (.cells #[.bool b1,.slice B1 m1 d1,.slice E1 u1 v1] 41)) (atM S k k) b1 B1 m1 d1 E1 u1 v1):=by
  have hw:=h.get (zaA zak) (Below.refl _ _) hk (hd.row hk);obtain⟨ad2,C2,d2,e2,-,i,b⟩:=hw;have b:zaH w C2 m d2 (S.getD k []):=b;injection e2 with e2;subst e2;have:=zac a i;rw [h0] at this;injection this with this;injection this with this _ this2;subst this this2;obtain⟨ae2,b2,B2,m2,d3,E2,u2,v2,e3,-,p0,p1,p2,j⟩:=b.get (Below.refl _ _) f;injection e3 with e3;subst e3;have t0:=zac a p0;have t1:=zac a p1;have t2:=zac a p2;rw [q0] at t0;rw [q1] at t1;rw [q2] at t2;injection t0 with t0;injection t0 with t0;injection t1 with t1;injection t1 with a1 a2 a3;injection t2 with t2;injection t2 with a4 a5 a6;subst t0 a1 a2 a3 a4 a5 a6;exact j.below (zax w 41 _).1
 clear h hv hx a c;go_enter func111,ntmps111;go_wp2;refine bodyPost_ret (v:=.agg #[.bool b1,.slice B1 m1 d1,.slice E1 u1 v1]) (by simp [results,results111,go_sem,r0,r1,r2]) rfl ?_;exact⟨_,_,_,_,_,_,_,rfl,HX.out,g.out⟩
theorem zmU (hT:zai w):
  Calls prog 111 #[.slice Q n q,.int .i64 (-1)] w (zaE w 1):=by
 obtain⟨a,b,-⟩:=zax w 41 #[.bool false,.slice none 0 0,.slice none 0 0];have HT:=lh9 (hT.on a);have HB:=lh9 a;have HK:=lh9 b;have d9:decide ((-1:Int)<0)=true:=de9;clear hT a b;go_enter func111,ntmps111;go_wp2_with fail;(with_reducible refine(zgt 1 _ HT.out de9 de9).mono ?_);rintro eo w2 ⟨b1,B1,m1,d1,E1,u1,v1,rfl,hx,hb⟩;rw [zjp] at hx;have hk:=zab hb HK.out;obtain⟨sc0,sf0,sc1,sf1,sc2,sf2⟩:=st3 hk (.bool b1) (.slice B1 m1 d1);obtain⟨r0,r1,r2⟩:=(sn3 hk (.bool b1) (.slice B1 m1 d1) (.slice E1 u1 v1)).c3;have HG : Hid (zaE w 1 (.returned (.agg #[.bool b1,.slice B1 m1 d1,.slice E1 u1 v1])) (((w2.setCell ⟨w.heap.size,0,none⟩ (.bool b1)).setCell ⟨w.heap.size,1,none⟩ (.slice B1 m1 d1)).setCell ⟨w.heap.size,2,none⟩ (.slice E1 u1 v1))) :=
  ⟨_,_,_,_,_,_,_,rfl,zaz hk (zaG (NoU.s3 _ _ _ _ _ _ _)) (zaV.of_far (zce _ _ _ _ _)) hx,bl3 _ _ _ (Nat.le_refl _) (zaa HB.out hb)⟩
 clear hb hk hx HB HK HT;go_wp2;refine bodyPost_ret (v:=.agg #[.bool b1,.slice B1 m1 d1,.slice E1 u1 v1]) (by simp [results,results111,go_sem,r0,r1,r2]) rfl ?_;exact HG.out
theorem zho {z:Int}(hz:z=(k:Int) - 1)(hT:zai w)(h:zaC (zaM zaf) w Q n S)(hd:zaY S n m)(hk:k<=n)(hkm:k<=m):
  Calls prog 111 #[.slice Q n q,.int .i64 z] w (zaE w (prF (atM S) k)):=by
 subst hz;cases k with
 |zero=>exact zmU hT
 |succ k=>rw [show((k+1:Nat):Int) - 1=(k:Int) by omega];exact ziJ h hd om9 om9
theorem zfn {S1 S2:oA9}{s c1 c2:Nat}{ys zs:List Rat}{x:Rat}{bx:Bool}{Bx Ex:oA9}{mx dx ux vx:Nat}(hT:zai w)(h:zaC (zaM zaf) w Q n S)(hd:zaY S n m)(hk:k<n)(F:k<m)(zS:zaO L S)(hs:zaH w S1 s c1 ys)(zy:zat L ys)(hx:zaf w x bx Bx mx dx Ex ux vx)(zx:SzQ L x)(ho:zaH w S2 s c2 zs)(zz:zat L zs)(hp:prF (atM S) k≠0)(hs9:s<=1073741824)(hk9:k<=1048576)(bc:1<=L)(hL:L<=8388608):
  Calls prog 170 #[.slice Q n q,.int .i64 (k:Int),.slice S1 s c1,.agg #[.bool bx,.slice Bx mx dx,.slice Ex ux vx],.slice S2 s c2] w (zdq w s (zau (prF (atM S) k)⁻¹ (zdn (zau (atM S k k) ys) (-x) zs))):=by
 have U:=up9 w (λw' hb=>ziJ (q:=q) (h.below (zaA zak) hb) hd hk F);have V:=up9 w (λw' hb=>zho (q:=q) (k:=k) rfl (hT.on hb) (h.below (zaA zak) hb) hd (Nat.le_of_lt hk) (Nat.le_of_lt F));have v:=lh9 (zS.at_ hd hk F);have l:=lh9 (zlG zS hd (Nat.le_of_lt hk) (Nat.le_of_lt F) bc);obtain⟨a,ha⟩:∃a,atM S k k=a:=⟨_,rfl⟩;obtain⟨p,au⟩:∃p,prF (atM S) k=p:=⟨_,rfl⟩;rw [ha] at U v⊢;rw [au] at V l hp⊢;have aj:=lh9 hp;have am:=up9 w (λw' hb=>hs.keep hb);have a8:=up9 w (λw' hb=>ho.keep hb);have Y:=lh9 zy;have an:=lh9 zz;have D:=lh9 zx;have HX:=up9 w (λw' hb=>hx.below hb);have HT:=up9 w (λw' hb=>hT.on hb);have a6:Hid (ys.length=zs.length):=hs.len.trans ho.len.symm;have a5:Hid ((zdn (zau a ys) (-x) zs).length=s):=by show _=_;unfold zdn zau;rw [List.length_zipWith,List.length_map,hs.len,ho.len,Nat.min_self]
 have i1:(0:Int)<=(k:Int):=om9;have HB:=lh9 (Below.refl w.heap.size w);clear hT h hs ho hx zy zz zx zS ha au hp;go_enter func170,ntmps170;obtain⟨d,f,-⟩:=zax w 41 #[.bool bx,.slice Bx mx dx,.slice Ex ux vx];have HB:=lh9 (zaa HB.out d);have b:=lh9 (f);obtain⟨az,a0,a1⟩:=f.c3;clear d f;go_wp2_with fail;clear az a0 a1;generalize w.alloc (.cells #[.bool bx,.slice Bx mx dx,.slice Ex ux vx] 41)=W3 at*;by_cases hz:x=0
 ·have C:=lh9 (decide_eq_true hz);have a4:=lh9 (clr_zero (a:=a) (p:=p) hz a6.out);clear hz;(with_reducible refine(zhX (t:=true) C.out (HT.out _ HB.out) (HX.out _ HB.out) D.out).mono ?_);rintro e X4 ⟨rfl,hb⟩;have HB:=lh9 (zaa HB.out hb);clear hb ;clear a5 C;go_wp2_with fail;have HS5:Hid (SzQ (L) (a)):=v.out;(with_reducible refine(U.out _ HB.out).mono ?_);rintro e X6 ⟨b5,A5,n5,c5,E5,k5,f5,rfl,av,hb⟩;have HB:=lh9 (zaa HB.out hb);have j:=lh9 (av);clear hb av;go_wp2_with fail;have al:Hid (SzQ (L) (p)):=l.out;(with_reducible refine(V.out _ HB.out).mono ?_);rintro e X8 ⟨b7,A7,n7,c7,E7,k7,f7,rfl,A,hb⟩;have HB:=lh9 (zaa HB.out hb);have j:=lh9 (j.out.below hb);have c:=lh9 (A);clear hb A;go_wp2_with fail;have B:Hid (SzQ (L+L) (a / p)):=v.out.div l.out;(with_reducible refine(zbK a p b5 A5 n5 c5 E5 k5 f5 b7 A7 n7 c7 E7 k7 f7 _ (HT.out _ HB.out) j.out c.out (v.out.fit j.out om9) (l.out.fit c.out om9) aj.out).mono ?_);rintro e E ⟨b9,A9,n9,c9,E9,k9,f9,rfl,aw,hb⟩;have HB:=lh9 (zaa HB.out hb);have j:=lh9 (j.out.below hb);have c:=lh9 (c.out.below hb);have X:=lh9 (aw);clear hb aw;clear j c;obtain⟨d,f,-⟩:=zax E 41 #[.bool b9,.slice A9 n9 c9,.slice E9 k9 f9];have HB:=lh9 (zaa HB.out d);have X:=lh9 (X.out.below d);obtain⟨ab,ac,ad⟩:=f.c3;clear d f;go_wp2_with fail;clear ab ac ad;generalize E.alloc (.cells #[.bool b9,.slice A9 n9 c9,.slice E9 k9 f9] 41)=W13 at*;generalize E.heap.size=q13 at*;(with_reducible refine(zdz (HT.out _ HB.out) X.out (am.out _ HB.out) B.out Y.out om9 om9 om9).mono ?_);rintro e W9 ⟨g9,rfl,r,i,hb⟩;have R:=lh9 (zaa HB.out hb);have HO:Hid (zaI W9 g9 s (zau p⁻¹ (zdn (zau a ys) (-x) zs))):=by show zaI _ _ _ _;rw [<-a4.out];exact i
  have T:=lh9 (Nat.le_trans HB.out.size r);clear hb i r;go_wp2;go_ret;exact⟨g9,rfl,T.out,HO.out,R.out⟩
 ·have C:=lh9 (decide_eq_false hz);clear hz;(with_reducible refine(zhX (t:=false) C.out (HT.out _ HB.out) (HX.out _ HB.out) D.out).mono ?_);rintro e X4 ⟨rfl,hb⟩;have HB:=lh9 (zaa HB.out hb);have b:=lh9 (zab hb b.out);clear hb ;go_upto_region 4 with fail;obtain⟨N,O,P⟩:=b.out.c3;have aa:=(Below.refl X4.heap.size X4).drew;have HB:=lh9 (zaa HB.out aa);have b:=lh9 (zab aa b.out);refine rg (csc N (csc O (csc P csn))) (λhHeld=>?_);clear aa N O P;generalize X4.drew=D6 at*;refine tk 0 ?_;refine tk 1 ?_;refine tk 3 ?_;refine tk 5 ?_;refine tk 7 ?_;have al:Hid (SzQ (L) (a)):=v.out;refine rc 2 (λKK hK=>?_);go_simp;(with_reducible refine(U.out _ HB.out).mono ?_);rintro e X8 ⟨b7,A7,n7,c7,E7,k7,f7,rfl,A,hb⟩;refine hK.out _ _ (Cs.below hHeld hb) (λhHeld=>?_);clear hK KK;have HB:=lh9 (zaa HB.out hb);have b:=lh9 (zab hb b.out);have c:=lh9 (A);clear hb A;have B:Hid (zat (L+L) (zau a ys)):=zat.scale v.out Y.out;refine rc 4 (λKK hK=>?_);go_simp;(with_reducible refine(zdz (HT.out _ HB.out) c.out (am.out _ HB.out) al.out Y.out om9 om9 om9).mono ?_);rintro e E ⟨g9,rfl,r,i,hb⟩;refine hK.out _ _ (Cs.below hHeld hb) (λhHeld=>?_);clear hK KK;have HB:=lh9 (zaa HB.out hb);have b:=lh9 (zab hb b.out);have c:=lh9 (c.out.below hb);have y:=lh9 (zaR i);clear hb r i;have G:Hid (SzQ (L) (-x)):=D.out.neg;refine rc 6 (λKK hK=>?_);go_simp;(with_reducible refine(zdl x bx Bx mx dx Ex ux vx _ (HT.out _ HB.out) (HX.out _ HB.out) (D.out.fit (HX.out _ HB.out) om9)).mono ?_);rintro e X12 ⟨b11,A11,n11,c11,E11,k11,f11,rfl,I,hb⟩;refine hK.out _ _ (Cs.below hHeld hb) (λhHeld=>?_);clear hK KK;have HB:=lh9 (zaa HB.out hb);have b:=lh9 (zab hb b.out);have c:=lh9 (c.out.below hb);have y:=lh9 (y.out.keep hb);have u:=lh9 (I);clear hb I;have a7:Hid (zat (4*L+1) (zdn (zau a ys) (-x) zs)):=(zat.addT B.out G.out an.out).up om9;refine rc 8 (λKK hK=>?_);go_simp;(with_reducible refine(vec_addt (K:=L+L) (K':=L) (L:=L) (HT.out _ HB.out) y.out u.out (a8.out _ HB.out) B.out G.out an.out om9 om9 om9).mono ?_);rintro e X14 ⟨g13,rfl,ar,H,hb⟩;refine hK.out _ _ (Cs.below hHeld hb) (λhHeld=>?_);clear hK KK;have HB:=lh9 (zaa HB.out hb);have b:=lh9 (zab hb b.out);have c:=lh9 (c.out.below hb);have y:=lh9 (y.out.keep hb);have u:=lh9 (u.out.below hb);have o:=lh9 (zaR H);clear hb ar H;refine tk 9 ?_;refine tk 10 ?_;refine tk 11 ?_;refine tk 12 ?_;refine tk 13 ?_;refine rdn ?_;clear hHeld;clear b c y u;go_wp2_with fail;have HS15:Hid (SzQ (L) (p)):=l.out;(with_reducible refine(V.out _ HB.out).mono ?_);rintro e X16 ⟨a9,a2,be,ba,a3,bd,bb,rfl,J,hb⟩;have HB:=lh9 (zaa HB.out hb);have o:=lh9 (o.out.keep hb);have g:=lh9 (J);clear hb J;go_wp2_with fail;have ak:Hid (SzQ (L) (p⁻¹)):=l.out.inv;(with_reducible refine(ziN p a9 a2 be ba a3 bd bb _ (HT.out _ HB.out) g.out (l.out.fit g.out om9) aj.out).mono ?_);rintro e Z ⟨ao,ah,ay,ap,ai,ax,aq,rfl,M,hb⟩;have HB:=lh9 (zaa HB.out hb);have o:=lh9 (o.out.keep hb);have g:=lh9 (g.out.below hb);have z:=lh9 (M);clear hb M;clear g;obtain⟨d,f,-⟩:=zax Z 41 #[.bool ao,.slice ah ay ap,.slice ai ax aq];have HB:=lh9 (zaa HB.out d);have o:=lh9 (o.out.keep d);have z:=lh9 (z.out.below d);obtain⟨ae,af,ag⟩:=f.c3;clear d f;go_wp2_with fail;clear ae af ag;generalize Z.alloc (.cells #[.bool ao,.slice ah ay ap,.slice ai ax aq] 41)=W21 at*;generalize Z.heap.size=q21 at*;(with_reducible refine(zdz (HT.out _ HB.out) z.out o.out ak.out a7.out om9 om9 om9).mono ?_);rintro e W9 ⟨g9,rfl,r,i,hb⟩;have R:=lh9 (zaa HB.out hb);have HO:=lh9 i;have T:=lh9 (Nat.le_trans HB.out.size r);clear hb i r;go_wp2;go_ret;exact⟨g9,rfl,T.out,HO.out,R.out⟩
end
