/- What this claim leans on. -/
import Derived.Test.YtielpgdebeggbaaGreatDoorMLSolve
set_option linter.unusedVariables false
set_option linter.unusedSimpArgs false
namespace Go.Proofs.YtielpgdebeggbaaGreatDoor
open Go Go.RowKit Go.Proofs.Tryz
open Go.ChangeShapes Go.WideShapes Go.ChangeAt Go.Deep
set_option maxHeartbeats 16000000
variable {e:yF}{M:List (List Rat)}{ld lw:List Nat}{b xs:List Rat}{K c j k m n p:Nat}{R W X:Nat->Nat->Rat}{t t0:TypeId}{v:Value}
theorem T3 {H:Type}{i:TypeId×Value->H}{P:Program}{W:World}{d:Nat}{t9:TypeId}{f0 f1:Field}{x:DataW H×List MemPlace}
  (g:P.underlying t9=some (.slice t0)) (j:P.cellsOf t0=1) (ht:P.underlying t0=some (.slice t)) (hs:P.underlying t=some (.struct #[f0,f1])) (hf:(f0.offset,P.cellsOf f0.type,f1.offset,P.cellsOf f1.type)=(0,1,1,1)) (hC:P.cellsOf t=2) (h0:P.underlying f0.type=some (.int .i64)) (h1:P.underlying f1.type=some (.int .i64))
  (h:DataW.trod i P W 0 (λ_=>true) true d t9 [v]=some x) (hb:Rows.uptoBulk x.1<=1048576):∃A n c R,v=.slice A n c/\ti W A n c R:=by
 have go:∀A n c,[v]=[Value.slice A n c]->∃A n c R,v=.slice A n c/\ti W A n c R:=λA n c e=>by
  simp only [List.cons.injEq,and_true] at e;subst e;obtain⟨R,hR⟩:=Sf g j ht hs hf hC h0 h1 (A:=A) (n:=n) (c:=c) (by simpa [Value.cells] using h) hb;exact⟨A,n,c,R,rfl,hR⟩
 rcases open_slice g h with⟨hcs,_⟩|⟨a,len,cap,m,k,D,Pl,hcs,_⟩
 ·exact go _ _ _ hcs
 ·exact go _ _ _ hcs
theorem gR {H:Type}{g:TypeId×Value->H}{P:Program}{W:World}{r:Reach}{b0:Nat}{t8 t9:TypeId}{g0 g1 f0 f1:Field}{d:DataW H}{p:List MemPlace}
  (k:P.underlying t8=some (.struct #[g0,g1])) (a:oneCellFields P #[g0,g1]=true) (i:P.cellsOf t8=2) (k0:P.underlying g0.type=some (.int .u8)) (o:P.underlying g1.type=some (.slice t0)) (j:P.cellsOf t0=1) (ht:P.underlying t0=some (.slice t))
  (hs:P.underlying t=some (.struct #[f0,f1])) (hf:(f0.offset,P.cellsOf f0.type,f1.offset,P.cellsOf f1.type)=(0,1,1,1)) (hC:P.cellsOf t=2) (h0:P.underlying f0.type=some (.int .i64)) (h1:P.underlying f1.type=some (.int .i64))
  (hv:Value.okWide P W r b0 t8 v) (h:DataW.Trod g P W 0 (λ_=>true) true t8 v d p) (hb:Rows.uptoBulk d<=1048576):∃(z:Nat) (A:ze) (n c:Nat) (R:Nat->ze×Nat×Nat×List (Int×Int)),v=.agg #[.int .u8 (z:Int),.slice A n c]/\z<=255/\ti W A n c R:=by
 obtain⟨v0,v1,y0,y1,n,rfl,rfl,rfl,e0,e1⟩:=Go.Joins.open_agg2 k a i hv h;obtain⟨z,hz,_,wz⟩:=DataW.trod_int k0 e0;simp only [List.cons.injEq,and_true] at hz;subst hz;have bz:=bounds_u8 wz;obtain⟨A,m,c,R,rfl,hR⟩:=T3 o j ht hs hf hC h0 h1 e1 (by simp only [Rows.uptoBulk,Rows.uptoBulkAll] at hb;omega);exact⟨z.toNat,A,m,c,R,by rw [Int.toNat_of_nonneg bz.1],za,hR⟩
open Go Go.RowKit Go.Proofs.Tryz
set_option maxHeartbeats 16000000
set_option maxRecDepth 100000
section
variable {A:ze}{n c m K:Nat}{MM:List (List Rat)}{w:World}
theorem Rr {V:ze}{cv:Nat}(hp:m+1=p)(hT:zu w)(h:xm w A n c m MM)(z:zW K MM)(hv:zR w V n cv xs)(zx:zD K xs)(hm9:m<64)(hK:K+2<=67108864:=by omega):
  Calls prog 75 #[.agg #[.slice A n c,.int .i64 (m:Int)],.slice V n cv] w (fU w n p (wg n p λa b=>if b=m then xs.getD a 0 else zl MM a b)):=by
 obtain⟨hn,hm⟩:=And.intro h.hn h.hm;obtain⟨bx,B,C,E,bz⟩:=xd w 28 41 28 #[.slice A n c,.int .i64 (m:Int)] #[.slice V n cv] #[.slice none 0 0,.int .i64 0];have g:=zb B;have i:=zb C;have j:=zb E;have HB:=zb bx;have HR:=λW=>zb (oO A n c (m:Int) W);have H:∀(W:World) (z9:Int),z9=(p:Int)->zd (Calls prog 80 #[.int .i64 (n:Int),.int .i64 z9] W (λe w'=>e=.returned (.bool true)/\W=w')):=λW z9 y=>by subst y;exact Y5 (Yf hn (show p<=64 by omega)) W
 have e0:((n:Int) !=(n:Int))=false:=zF;have J:=hv.len;have HM:∀W,Below w.heap.size w W->zh W (w.heap.size) 28 #[.slice A n c,.int .i64 (m:Int)]->zh W (w.heap.size+1) 41 #[.slice V n cv]->∀z9:Int,z9=((p:Nat):Int)->zd (Calls prog 82 #[.int .i64 ((n:Nat):Int),.int .i64 z9,.func (.func 118) #[] #[.pointer (some ⟨w.heap.size,0,none⟩),.pointer (some ⟨w.heap.size+1,0,none⟩)]] W (sv W (n) (p) (wg n p λa b=>if b=m then xs.getD a 0 else zl MM a b))):=λW hW k0 k1 z9 y=>by
  subst y;have hh:=h.keep hW;exact Ye (K:=K) (λa b=>if b=m then xs.getD a 0 else zl MM a b) 118 #[.pointer (some ⟨w.heap.size,0,none⟩),.pointer (some ⟨w.heap.size+1,0,none⟩)] n p W (hT.on hW) ⟨SR,λa b ha I w' hb=>R9 (hh.keep hb) (zg hb k0) (zg hb k1) ((hv.keep hW).keep hb) ha za⟩ (λa b ha I=>by split;exact zx.at_ za;exact z.at_ h.dims ha za) hn za hK
 have HP:=zb hp;clear bx bz B C E hT h z hv zx J hp;obtain⟨o,s⟩:=g.o.c2;have t:=i.o.c1;go_enter func75,ntmps75;go_wp2_with fail;generalize ((w.alloc (.cells #[.slice A n c,.int .i64 (m:Int)] 28)).alloc (.cells #[.slice V n cv] 41)).alloc (.cells #[.slice none 0 0,.int .i64 0] 28)=W1 at*;refine rg (zj o (zj s (zj t zO))) (λhHeld=>?_);clear o s t;have k:=(qZ W1.heap.size W1).drew;have HB:=zb (zc HB.o k);have g:=zb (zg k g.o);have i:=zb (zg k i.o);have j:=zb (zg k j.o);clear k;generalize W1.drew=D at*;refine tk 0 ?_;refine tk 1 ?_;refine tk 2 ?_;refine rc 3 (λKK d=>?_);go_simp;refine((HR _).o).mono ?_;rintro e w2 ⟨rfl,hb⟩;refine d.out _ _ (Cs.below hHeld hb) (λhHeld=>?_);clear d KK;have HB:=zb (zc HB.o hb);have g:=zb (zg hb g.o);have i:=zb (zg hb i.o);have j:=zb (zg hb j.o);clear hb;refine tk 4 ?_;refine tk 5 ?_;refine tk 6 ?_;refine tk 8 ?_;refine tk 9 ?_;refine tk 10 ?_;refine rc 7 (λKK d=>?_);go_simp;refine((HR _).o).mono ?_;rintro e w2 ⟨rfl,hb⟩;refine d.out _ _ (Cs.below hHeld hb) (λhHeld=>?_);clear d KK;have HB:=zb (zc HB.o hb);have g:=zb (zg hb g.o);have i:=zb (zg hb i.o);have j:=zb (zg hb j.o);clear hb;refine rc 11 (λKK d=>?_);go_simp;refine((H _ _ (by have h0:=HP.o;first|omega|(have e:IntKind.i64.wrap ((m:Int)+1)=(m:Int)+1:=QL _ za;omega))).o).mono ?_;rintro e w2 ⟨rfl,rfl⟩;refine d.out _ _ hHeld (λhHeld=>?_);clear d KK;refine tk 12 ?_;refine tk 13 ?_;refine zV ?_;clear hHeld;obtain⟨o,s⟩:=g.o.c2;have t:=i.o.c1;go_wp2_with fail;refine rg (zj o (zj s zO)) (λhHeld=>?_);clear o s t;have k:=(qZ w2.heap.size w2).drew;have HB:=zb (zc HB.o k);have g:=zb (zg k g.o);have i:=zb (zg k i.o);have j:=zb (zg k j.o);clear k;generalize w2.drew=D at*;refine tk 0 ?_;refine tk 2 ?_;refine tk 3 ?_;refine tk 4 ?_;refine tk 5 ?_;refine rc 1 (λKK d=>?_);go_simp;refine((HR _).o).mono ?_;rintro e w2 ⟨rfl,hb⟩;refine d.out _ _ (Cs.below hHeld hb) (λhHeld=>?_);clear d KK;have HB:=zb (zc HB.o hb);have g:=zb (zg hb g.o);have i:=zb (zg hb i.o);have j:=zb (zg hb j.o);clear hb;refine rc 6 (λKK d=>?_);go_simp;refine(HM _ HB.o g.o i.o _ (by have h0:=HP.o;first|omega|(have e:IntKind.i64.wrap ((m:Int)+1)=(m:Int)+1:=QL _ za;omega))).o.mono ?_;rintro e w3 ⟨A3,c3,rfl,G,F,hb⟩;refine d.out _ _ (Cs.below hHeld hb) (λhHeld=>?_);clear d KK;have u:=zg hb j.o;obtain⟨L,N,M,O⟩:=uH u (.slice A3 (n) c3);obtain⟨r0,r1⟩:=(uG u (.slice A3 (n) c3) (.int .i64 ((p:Nat):Int))).c2;have HG:=zb (je G (λad e=>qJ j.o.lt (F ad e)) u (zc HB.o hb) za);clear hb u G F HB HM g i j;refine rc 7 (λKK d=>?_);go_simp;refine d.out _ _ ?_ (λhHeld=>?_)
 ·refine Cs.far hHeld (um _ _ _ _) ⟨?_,?_,trivial⟩<;>(show w.heap.size≠w.heap.size+1+1;omega)
 clear d KK;refine tk 8 ?_;refine zV ?_;clear hHeld L N M O;go_wp2;refine bodyPost_ret (v:=.tuple #[.agg #[.slice A3 (n) c3,.int .i64 ((p:Nat):Int)],.bool true]) (by simp [results,results75,go_sem,r0,r1]) rfl ?_;exact HG.o
end
open Go Go.RowKit Go.Proofs.Tryz
set_option maxHeartbeats 16000000
set_option maxRecDepth 100000
def nH (m:Nat)(ld:List Nat)(R:List (List Rat))(i:Nat):List Rat:=(List.range i).foldl (λx r=>x.set (ld.getD r 0) (zl R r m)) (List.replicate m 0)
theorem cK (m:Nat)(ld:List Nat)(R:List (List Rat))(i:Nat):nH m ld R (i+1)=(nH m ld R i).set (ld.getD i 0) (zl R i m):=by unfold nH;rw [XE,yH];rfl
theorem ZQ (m:Nat)(ld:List Nat)(R:List (List Rat))(i:Nat):(nH m ld R i).length=m:=by
 induction i with
 |zero=>exact yA
 |succ i ih=>rw [cK,QY,ih]
def tB (m:Nat)(ld:List Nat)(R:List (List Rat)):List Rat:=if m ∈ ld then [] else nH m ld R ld.length
def rp (m:Nat)(ld:List Nat):Int:=if m ∈ ld then 1 else if ld.length<m then 3 else 2
def Ux (w:World)(xs:List Rat)(z:Int)(eo:Ending)(w':World):Prop:=∃(A:ze) (k c:Nat),eo=.returned (.tuple #[.slice A k c,.int .i64 z,.bool true])/\zR w' A k c xs/\Below w.heap.size w w'
def xw (n m p:Nat)(MM:List (List Rat))(xs:List Rat):List (List Rat):=wg n p λa b=>if b=m then xs.getD a 0 else zl MM a b
theorem ZD (n m p:Nat)(MM:List (List Rat))(xs:List Rat):zM (xw n m p MM xs) n p:=iP _ _ _
theorem UU {p:Nat}{MM:List (List Rat)}(hp:m+1=p)(hd:zM MM n m)(h:zW K MM)(hl:xs.length=n)(hx:zD K xs):zW K (xw n m p MM xs):=zW.tab λr c hr hc=>by
 by_cases e:c=m
 ·rw [if_pos e];exact hx.at_ za
 ·rw [if_neg e];exact h.at_ hd hr za
section
variable {w:World}{A:ze}{n c m K K0:Nat}{MM:List (List Rat)}{V:ze}{k cv:Nat}{xs:List Rat}
theorem Qi {p:Nat}(hp:m+1=p)(hT:zu w)(h:xm w A n c m MM)(z:zW K0 MM)(hv:zR w V n cv xs)(zx:zD K0 xs)(a5:m<64)(hW:yy K (xw n m p MM xs))(hK:260*K+269<=33554432:=by omega)(a1:K+K0<=33554432:=by omega)(a2:0<K:=by omega):
  Calls prog 32 #[.agg #[.slice A n c,.int .i64 (m:Int)],.slice V n cv] w (Ux w (tB m (yp p (xw n m p MM xs)).ld (uY p (xw n m p MM xs))) (rp m (yp p (xw n m p MM xs)).ld)):=by
 have hn:=h.hn;have HT:=zk w (λw' hb=>hT.on hb);have O:zM (xw n m p MM xs) n p:=ZD n m p MM xs;have R:=km O;obtain⟨s1,-,-,-⟩:=aH O hn hW;have ab:=zb s1;have Z:zd (∀l ∈(yp p (xw n m p MM xs)).ld,l<p):=kf R;have G:zd ((yp p (xw n m p MM xs)).ld.length<=n):=jo R;have ae:zd (zW K0 (xw n m p MM xs)):=UU hp h.dims z hv.len zx;obtain⟨d,s,-⟩:=zA w 28 #[.slice A n c,.int .i64 (m:Int)];obtain⟨p0,p1⟩:=s.c2;have ac:zd (Calls _ _ _ _ (fU _ n p (xw n m p MM xs))):=(Rr (K:=K0) hp (hT.on d) (h.keep d) z (hv.keep d) zx a5 za);have HB:=zb d;have a:=zb s;have o:zd (∀(w':World) (A':ze) (c':Nat),zu w'->xm w' A' n c' p (xw n m p MM xs)->zd (Calls prog 76 #[.agg #[.slice A' n c',.int .i64 (p:Int)]] w' (Z1 w' n p (uY p (xw n m p MM xs)) (yp p (xw n m p MM xs)).ld))):=λw' A' c' h1 h2=>qi h1 h2 ae.o hW hK a1 a2;obtain⟨ld,am⟩:∃ld,(yp p (xw n m p MM xs)).ld=ld:=⟨_,rfl⟩;obtain⟨RM,aj⟩:∃RM,uY p (xw n m p MM xs)=RM:=⟨_,rfl⟩;rw [am] at Z G o⊢;rw [aj] at ab o⊢;unfold Ux;clear hT h z hW d s R s1 aj am hv zx O ae;have i0:(0:Int)<=(m:Int):=za;go_enter func32,ntmps32;go_wp2_with fail;clear p0 p1;generalize w.alloc (.cells #[.slice A n c,.int .i64 (m:Int)] 28)=W1 at*;refine ac.o.mono ?_;rintro eo w2 ⟨A2,c2,rfl,hm2,-,hb⟩;obtain⟨d,s,-⟩:=zA w2 28 #[.slice A2 n c2,.int .i64 (p:Int)];obtain⟨p0,p1⟩:=s.c2;have y:=zc hb d;have HB:=zb (zc HB.o y);have a:=zb (zg y a.o);have J:=o.o _ A2 c2 (HT.o _ HB.o) (hm2.keep d);clear hb hm2 d s y ac o;go_wp2_with fail;clear p0 p1;generalize w2.alloc (.cells #[.slice A2 n c2,.int .i64 (p:Int)] 28)=W3 at*;refine J.o.mono ?_;rintro eo w4 ⟨A4,c4,B4,k4,cB4,rfl,al,an,ag,hc3,hc4,hb⟩;obtain⟨d,s,-⟩:=zA w4 28 #[.slice A4 n c4,.int .i64 (p:Int)];have y:=zc hb d;have HB:=zb (zc HB.o y);have a:=zb (zg y a.o);have t:=zb (an.keep d);have j:=zb (ag.keep d);have k:=zb s;have B:=zb al;obtain⟨p0,p1⟩:=a.o.c2;clear hb an ag d s y J al;go_wp2_with fail;clear p0 p1;generalize w4.alloc (.cells #[.slice A4 n c4,.int .i64 (p:Int)] 28)=W5 at*;generalize w4.heap.size=q9 at*;refine(uL A n c (m:Int) _).mono ?_;rintro eo w6 ⟨rfl,hb⟩;have HB:=zb (zc HB.o hb);have a:=zb (zg hb a.o);have k:=zb (zg hb k.o);have t:=zb (t.o.keep hb);have j:=zb (j.o.keep hb);clear hb;go_wp2_with fail;by_cases hin:m ∈ ld
 ·have hX:tB m ld RM=[]:=by unfold tB;rw [if_pos hin]
  have hN:rp m ld=1:=by unfold rp;rw [if_pos hin]
  have HX:=zb hX;have HN:=zb hN;refine(We (decide_eq_true (Tr.2 hin)) j.o (by have:=B.o;have:=G.o;omega)).mono ?_;rintro eo w7 ⟨rfl,hb⟩;have HB:=zb (zc HB.o hb);have HV:=zb (yg.nil (E:=zo) w7);clear hb hin hX hN;go_wp2;refine bodyPost_ret (v:=.tuple #[.slice none 0 0,.int .i64 1,.bool true]) (by simp [results,results32,go_sem]) rfl ?_;exact⟨none,0,0,by rw [HN.o],by rw [HX.o];exact HV.o,HB.o⟩
 ·have hX:tB m ld RM=nH m ld RM ld.length:=by unfold tB;rw [if_neg hin]
  have hN:rp m ld=if ld.length<m then 3 else 2:=by unfold rp;rw [if_neg hin]
  have HX:=zb hX;have HN:=zb hN;have aa:zd (∀i,i<ld.length->ld.getD i 0<m):=λi hi=>by
   have h1:=Z.o _ (tW hi);have h2:ld.getD i 0≠m:=λe=>hin (e▸tW hi);omega
  refine(We (decide_eq_false (λh9=>hin (Tr.1 h9))) j.o (by have:=B.o;have:=G.o;omega)).mono ?_;rintro eo w7 ⟨rfl,hb⟩;have HB:=zb (zc HB.o hb);have a:=zb (zg hb a.o);have k:=zb (zg hb k.o);have t:=zb (t.o.keep hb);have j:=zb (j.o.keep hb);obtain⟨p0,p1⟩:=a.o.c2;clear hb hin hX hN;go_wp2_with fail;clear p0 p1;refine(uL A n c (m:Int) _).mono ?_;rintro eo w8 ⟨rfl,hb⟩;have HB:=zb (zc HB.o hb);have a:=zb (zg hb a.o);have k:=zb (zg hb k.o);have t:=zb (t.o.keep hb);have j:=zb (j.o.keep hb);clear hb;have aw:=zk w8 (λw' hb=>t.o.keep hb);have av:=zk w8 (λw' hb=>j.o.keep hb);have I:=zk w8 (λw' hb=>zg hb a.o);have U:=zk w8 (λw' hb=>zg hb k.o);have a0:=zk w8 (λw' hb=>HT.o w' (zc HB.o hb));have X:=zb a.o.lt;have Y:=zb k.o.lt;clear t j a k HT;go_wp2_with fail;(with_reducible refine(Ph m _ za).mono ?_);rintro eo w9 ⟨g9,rfl,a4,ao,af⟩;have ar:yf w9 g9 m (nH m ld RM 0):=ao;clear ao;go_wp2_with fail
  go_loopg [40] (k4+1) (λgg ix wx=>∃(r:Nat),r<=k4/\k4<gg+r/\ix=.int .i64 r/\yf wx g9 m (nH m ld RM r)/\Below w8.heap.size w8 wx)
  case atStart=>exact⟨0,qM _,za,rfl,ar,af⟩
  case round=>
   clear ar af;obtain⟨r,hrk,hg2,rfl,hx,F⟩:=hrel;by_cases hlr:r<k4
   ·have a3:decide ((r:Int)<(k4:Int))=true:=decide_eq_true za;have i1:(0:Int)<=(r:Int):=za;have i2:(r:Int)<(k4:Int):=za;have ap:r<ld.length:=by rw [<-B.o];exact hlr
    have g:=zb F;obtain⟨ad,ak,hc⟩:=(av.o _ F).num r hlr;rw [Y2 ap] at hc;have Q:ld.getD r 0<m:=aa.o r ap;have L:=zb (cK m ld RM r);obtain⟨l,hl⟩:∃l,ld.getD r 0=l:=⟨_,rfl⟩;rw [hl] at hc Q L;have i3:(0:Int)<=(l:Int):=za;have i4:(l:Int)<(m:Int):=za;have a7:r<n:=by have:=G.o;omega
    have a6:m<p:=za;have C:=zb hx;subst ak;clear hx F hl;go_upto_region 11 with fail;clear hc;obtain⟨p0,p1⟩:=(U.o _ g.o).c2;obtain⟨p2,p3⟩:=(I.o _ g.o).c2;have N:=(qZ wr.heap.size wr).drew;refine rg (zj p0 (zj p1 (zj p2 (zj p3 zO)))) (λhHeld=>?_);have C:=zb (C.o.keep N);have g:=zb (zc g.o N);clear p0 p1 p2 p3 N;generalize wr.drew=D at*;refine tk 0 ?_;refine tk 1 ?_;refine tk 2 ?_;refine tk 3 ?_;refine tk 4 ?_;refine rc 5 (λKK u=>?_);go_simp;refine(uL A n c (m:Int) _).mono ?_;rintro eo be ⟨rfl,hb⟩;refine u.out _ _ (Cs.below hHeld hb) (λhHeld=>?_);have C:=zb (C.o.keep hb);have g:=zb (zc g.o hb);clear u KK hb;refine rc 6 (λKK u=>?_);go_simp;(with_reducible refine(jj (a0.o _ g.o) (aw.o _ g.o) ab.o a7 a6 za).mono ?_);rintro eo bf ⟨b8,A8,n8,c8,E8,k8,f8,rfl,aq,hb⟩;refine u.out _ _ (Cs.below hHeld hb) (λhHeld=>?_);have M:=C.o.keep hb;have S:=wC.set_ z6 M Q aq;rw [<-L.o] at S;obtain⟨q0,q1,q2,a8,bb,a9,bc,ba,bd⟩:=M.ready Q (.bool b8) (.slice A8 n8 c8);have az:=zb S;have au:=zb (jE (l*3) (l*3+1) (l*3+2) (.bool b8) (.slice A8 n8 c8) (.slice E8 k8 f8) a4 (zc g.o hb));clear u KK hb aq M S C g L;refine tk 7 ?_;refine rc 8 (λKK u=>?_);go_simp;refine u.out _ _ (Cs.far hHeld ((((zT.refl g9 bf).set_ (l*3) (.bool b8)).set_ (l*3+1) (.slice A8 n8 c8)).set_ (l*3+2) (.slice E8 k8 f8)) ⟨(by have:=Y.o;show q9≠g9;omega),(by have:=Y.o;show q9≠g9;omega),(by have:=X.o;show w.heap.size≠g9;omega),(by have:=X.o;show w.heap.size≠g9;omega),trivial⟩) (λhHeld=>?_);clear u KK a8 bb a9 bc ba bd;refine zV ?_;clear hHeld;go_wp2;go_roundg (k4 - r)
    case measure=>omega
    case rel=>exact⟨r+1,za,za,by go_num,az.o,au.o⟩
   ·have P:r=k4:=za;have a3:decide ((r:Int)<(k4:Int))=false:=by rw [P];simp
    have H:zd (yf wr g9 m (tB m ld RM)):=by rw [HX.o,<-B.o,<-P];exact hx
    have g:=zb F;obtain⟨p2,p3⟩:=(I.o _ F).c2;clear hx F P;go_wp2_with fail;clear p2 p3;refine(uL A n c (m:Int) _).mono ?_;rintro eo be ⟨rfl,hb⟩;have H:=zb (H.o.keep hb);have T:=zb (zc HB.o (zc g.o hb));clear hb g;by_cases hlt:k4<m
    ·have d5:decide ((k4:Int)<(m:Int))=true:=decide_eq_true za;have ai:rp m ld=3:=by rw [HN.o,if_pos (by rw [<-B.o];exact hlt)]
     have ay:=zb ai;clear ai;go_wp2;refine bodyPost_ret (v:=.tuple #[.slice (some ⟨g9,0,none⟩) m m,.int .i64 3,.bool true]) (by simp [results,results32,go_sem]) rfl ?_;exact⟨_,_,_,by rw [ay.o],yt H.o,T.o⟩
    ·have d5:decide ((k4:Int)<(m:Int))=false:=decide_eq_false za;have ah:rp m ld=2:=by rw [HN.o,if_neg (by rw [<-B.o];exact hlt)]
     have ax:=zb ah;clear ah;go_wp2;refine bodyPost_ret (v:=.tuple #[.slice (some ⟨g9,0,none⟩) m m,.int .i64 2,.bool true]) (by simp [results,results32,go_sem]) rfl ?_;exact⟨_,_,_,by rw [ax.o],yt H.o,T.o⟩
end
open Go Go.RowKit Go.Proofs.Tryz
set_option maxHeartbeats 16000000
set_option maxRecDepth 100000
theorem ym.rdsz (a:ym n c K M e)(hM:zM M n n)(hn:n<=64)(hW:yy K M):zn (1+64*K) e.rd:=by
 have hr:zn (1+64*K) (x5 M):=by
  have:=jI hW M.length (qX _);rw [List.take_length] at this;exact(this.up (XU (qS _ (by rw [hM.rows];exact hn)) _)).szq za
 rcases a.rd with e1|e1<;>rw [e1]
 ·exact hr
 ·exact hr.neg
section
variable {w:World}{g n K:Nat}{e:yF}{M:List (List Rat)}{cA cB cD:Nat}{A B D:ze}{x0 x1 x2:Value}{qs:List Nat}
theorem Tm (hT:zu w)(h:zE w g n (xh M n) A n cA B n cB D n cD x0 x1 x2 qs)(a:ym n n K M (xh M n))(hM:zM M n n)(hW:yy K M)(hn:n<=64)(hK:67+65*K<=8388608):
  Calls prog 34 #[.pointer (some ⟨g,0,none⟩)] w (yj w (zB n (zl M))):=by
 have E:zI (zl (xh M n).S) n / (xh M n).rd=zB n (zl M):=by
  have h1:=pj a;have h2:=a.rne;rw [h1];grind
 rw [<-E];generalize xh M n=e at*;obtain⟨i,u,-⟩:=zA w 52 #[.bool false,.slice none 0 0,.slice none 0 0];obtain⟨-,-,hL⟩:=h.lines za;have J:=zk w (λw' hb=>hT.on hb);have j:=zk w (λw' hb=>bH (q:=cA) (k:=n) (z:=IntKind.i64.wrap ((n:Int) - 1)) (by rw [QL _ za]) (hT.on hb) (hL.below (xe z6) hb) a.dims (qX _) (qX _));have I:=zk w (λw' hb=>eV (h.below hb));have H:=a.msz;have t:=zb (aK H a.dims (qX _) (qX _) za);have s:=zb (a.rdsz hM hn hW);have m:=zb a.rne;have hs:=h.below i;have p0:=hs.blk.cell 0;obtain⟨br,Br,mr,dr,Er,ur,vr,rfl,rfl,rfl,G⟩:=hs.rsd;have t0:=hs.blk.cell 3;have t1:=hs.blk.cell 4;have t2:=hs.blk.cell 5;have o:=zb G;have HB:=zb i;have d:=zb u;obtain⟨Y,C⟩:∃x,zI (zl e.S) n=x:=⟨_,rfl⟩;obtain⟨R,y⟩:∃x,e.rd=x:=⟨_,rfl⟩;rw [C] at j t⊢;rw [y] at s m o⊢;clear hT h a hL i u hs G H C y E;go_enter func34,ntmps34;go_wp2_with fail;generalize w.alloc (.cells #[.bool false,.slice none 0 0,.slice none 0 0] 52)=W1 at*;have GG:=zk W1 (λw' h=>(zj (zw h p0) (zj (zw h t0) (zj (zw h t1) (zj (zw h t2) zO)))));clear p0 t0 t1 t2;refine pW (λhHeld=>?_);refine tl 0 GG.o ?_;refine tl 1 GG.o ?_;refine tl 2 GG.o ?_;refine tl 3 GG.o ?_;refine tl 4 GG.o ?_;refine tl 8 GG.o ?_;refine tl 9 GG.o ?_;refine tl 10 GG.o ?_;refine tl 11 GG.o ?_;refine nm W1 tc (v8 3 (.old 9 (.slice A n cA):: .old 10 (.pointer (some ⟨g,0,none⟩)):: .val 11 (FV (.int .i64 (n:Int))):: .val 12 (FV (.int .i64 (IntKind.i64.wrap ((n:Int) - 1)))):: .val 13 (FQ Y)::v8 3 (.old 17 (.agg #[.bool br,.slice Br mr dr,.slice Er ur vr]):: .val 18 (wR (Y / R) true):: .val 5 (wR (Y / R) true):: .val 19 (FQ (Y / R)):: .val 20 (FV (.bool true)):: .box 3 52 #[.bool false,.slice none 0 0,.slice none 0 0] 17 14:: .sto 16 14:: .val 4 (FV (.bool true))::[]))) hHeld (sO 3 3 (wm (wm (wj (wj (wj (sO 3 11 (wm (wj (tR 12 (ua 13 wR.l (ua 13 wR.r (tQ (tS (tR 15 nu)))))) ?_))) ?_) ?_) ?_)))) ?_
 ·intro AA wx hb hk KK Q k;obtain⟨_,r1,b1,A1,n1,c1,E1,k1,f1,rfl,h1⟩:=vF (hk 7 rfl) rfl;have r2:AA.tmps.getD 17 undef=.agg #[.bool br,.slice Br mr dr,.slice Er ur vr]:=hk 11 rfl;have h2:=o.o.below hb;go_simp;(with_reducible refine(ia _ _ b1 A1 n1 c1 E1 k1 f1 br Br mr dr Er ur vr _ (J.o _ (zc HB.o hb)) h1 h2 (t.o.fit h1 za) (s.o.fit h2 za) m.o).mono ?_);rintro e wy ⟨b6,A6,n6,c6,E6,k6,f6,rfl,h6,hb⟩;exact k _ _ hb ⟨b6,A6,n6,c6,E6,k6,f6,rfl,h6⟩
 ·intro AA wx hb hk KK Q k;have r1:AA.tmps.getD 9 undef=.slice A n cA:=hk 3 rfl;obtain⟨_,r2,rfl⟩:=vF (hk 6 rfl) rfl;go_simp;(with_reducible refine(j.o _ (zc HB.o hb)).mono ?_);rintro e wy ⟨b6,A6,n6,c6,E6,k6,f6,rfl,h6,hb⟩;exact k _ _ hb ⟨b6,A6,n6,c6,E6,k6,f6,rfl,h6⟩
 ·intro AA wx hb hk KK Q k;obtain⟨_,r2,rfl⟩:=vF (hk 5 rfl) rfl;go_simp;exact k _ _ (qZ _ _) rfl
 ·intro AA wx hb hk KK Q k;have r1:AA.tmps.getD 10 undef=.pointer (some ⟨g,0,none⟩):=hk 4 rfl;go_simp;(with_reducible refine(I.o _ (zc HB.o hb)).mono ?_);rintro e wy ⟨rfl,hb⟩;exact k _ _ hb rfl
 rintro vs ad w9 hb hf -;obtain⟨bZ,AZ,nZ,cZ,EZ,kZ,fZ,e6,h6⟩:=dO (F:=FQ _) hf 14;obtain⟨-,k6⟩:=dN hf 16;rw [e6] at k6;simp only [ui,v8,uf,List.foldl,z8];generalize ad 16=g6 at*;have HG:=zb (Xf h6 (zg hb d.o) (zc HB.o hb));obtain⟨m0,m1,m2⟩:=zh.c3 k6;obtain⟨sc0,sf0,sc1,sf1,sc2,sf2⟩:=y6 (zg hb d.o) (.bool bZ) (.slice AZ nZ cZ);obtain⟨r0,r1,r2⟩:=(xf (zg hb d.o) (.bool bZ) (.slice AZ nZ cZ) (.slice EZ kZ fZ)).c3;clear hb hf e6 h6 k6 GG hHeld;go_wp2;refine bodyPost_ret (v:=.agg #[.bool bZ,.slice AZ nZ cZ,.slice EZ kZ fZ]) (by simp [results,results34,go_sem,r0,r1,r2]) rfl ?_;exact HG.o
end
open Go Go.RowKit Go.Proofs.Tryz
set_option maxHeartbeats 16000000
set_option maxRecDepth 100000
theorem RR {z:Nat}{A:ze}{w:World}(hz:z<=255)(hc:n<=c)(hc2:c<=1048576):
  Calls prog 9 #[.agg #[.int .u8 (z:Int),.slice A n c],.int .i64 6] w (λe w'=>e=.returned (.agg #[.int .u8 ((z%7:Nat):Int),.slice A (min n (z%7)) c])/\Below w.heap.size w w'):=by
 obtain⟨m,hm⟩:∃m,z%7=m:=⟨_,rfl⟩;have j:(z:Int)%7=(m:Int):=za;have hzt:(z:Int).tmod 7=(m:Int):=by rw [XB za];exact j
 rw [hm];have bm:m<=6:=za;have i0:(0:Int)<=(m:Int):=za;obtain⟨g,a,h,-⟩:=yv w 24 24 #[.int .u8 (z:Int),.slice A n c] #[.int .u8 0,.slice none 0 0];obtain⟨p0,p1⟩:=a.c2;have sf0:=a.frozen 0;have k1:=a.set_ 0 (.int .u8 (m:Int));have k1:zh _ _ _ #[.int .u8 (m:Int),.slice A n c]:=k1;obtain⟨q0,q1⟩:=k1.c2;have sf1:=k1.frozen 1;have j1:=zh.far (p:=⟨w.heap.size,0,none⟩) h (by show w.heap.size+1≠w.heap.size;omega) (.int .u8 (m:Int));have i:=zQ (p:=⟨w.heap.size,0,none⟩) (.int .u8 (m:Int)) (qX w.heap.size) g;by_cases hlt:m<n
 ·rw [show min n m=m by omega];have d1:decide ((n:Int)>(m:Int))=true:=decide_eq_true za;have d2:decide ((m:Int)<(n:Int))=true:=decide_eq_true za;have i1:(m:Int)<=(c:Int):=za;have i2:(m:Int)<=(n:Int):=za;have i3:m<=c:=za;have k2:=k1.set_ 1 (.slice A m c);have k2:zh _ _ _ #[.int .u8 (m:Int),.slice A m c]:=k2;obtain⟨q2,q3⟩:=k2.c2;have j2:=zh.far (p:=⟨w.heap.size,1,none⟩) j1 (by show w.heap.size+1≠w.heap.size;omega) (.slice A m c);have k:=zQ (p:=⟨w.heap.size,1,none⟩) (.slice A m c) (qX w.heap.size) i;obtain⟨o,t,s,u⟩:=uH j2 (.int .u8 (m:Int));obtain⟨r0,r1⟩:=(uG j2 (.int .u8 (m:Int)) (.slice A m c)).c2;have d:=zb (yv w 24 24 #[.int .u8 (m:Int),.slice A m c] #[.int .u8 (m:Int),.slice A m c]).1;clear g a h k1 k2 j1 j2 i k hm j hz;go_enter func9,ntmps9;go_wp2;refine bodyPost_ret (v:=.agg #[.int .u8 (m:Int),.slice A m c]) (by simp [results,results9,go_sem,r0,r1]) rfl ?_;exact⟨rfl,d.o⟩
 ·rw [show min n m=n by omega];have d1:decide ((n:Int)>(m:Int))=false:=decide_eq_false za;have d2:decide ((m:Int)<(n:Int))=false:=decide_eq_false za;obtain⟨o,t,s,u⟩:=uH j1 (.int .u8 (m:Int));obtain⟨r0,r1⟩:=(uG j1 (.int .u8 (m:Int)) (.slice A n c)).c2;have d:=zb (yv w 24 24 #[.int .u8 (m:Int),.slice A n c] #[.int .u8 (m:Int),.slice A n c]).1;clear g a h k1 j1 i hm j hz;go_enter func9,ntmps9;go_wp2;refine bodyPost_ret (v:=.agg #[.int .u8 (m:Int),.slice A n c]) (by simp [results,results9,go_sem,r0,r1]) rfl ?_;exact⟨rfl,d.o⟩
open Go Go.RowKit Go.Proofs.Tryz
set_option maxHeartbeats 16000000
section
variable {n K:Nat}{M:List (List Rat)}{e:yF}
theorem ym.sur (h:ym n n K M e){i:Nat}(hi:i<n):∃k,k<n/\e.P.getD k 0=i:=by
 have hl:=h.pl;obtain⟨k,hk,e9⟩:=List.mem_iff_getElem.1 (h.perm.mem_iff.2 (List.mem_range.2 hi));exact⟨k,za,by rw [qQ,qY hk];exact e9⟩
theorem PU (hk:k<n):(uw n e b).getD k 0=e.T.getD k 0*b.getD (e.P.getD k 0) 0:=by
 rw [qQ,WV e b hk];rfl
theorem ym.solves (h:ym n n K M e){L K':Nat}{b:List Rat}{C:List (List Rat)}(hs:wK n K' L (aF M e) e.S C (uw n e b)){i:Nat}(hi:i<n):zt n (λj=>zl M i j*(wO n e.S C (uw n e b)).getD j 0)=b.getD i 0:=by
 obtain⟨k,hk,rfl⟩:=h.sur hi;have h1:=hs.sol hk;have ht:=h.tne hk;rw [PU hk] at h1;have e1:zt n (λj=>aF M e k j*(wO n e.S C (uw n e b)).getD j 0)=e.T.getD k 0*zt n λj=>zl M (e.P.getD k 0) j*(wO n e.S C (uw n e b)).getD j 0:=by
  rw [wJ];refine zU λj _=>?_;unfold aF;grind
 rw [e1] at h1;generalize zt n (λj=>zl M (e.P.getD k 0) j*(wO n e.S C (uw n e b)).getD j 0)=u at h1⊢
 grind
end
open Go Go.RowKit Go.Proofs.Tryz
set_option maxHeartbeats 16000000
set_option maxRecDepth 100000
theorem Uq {n:Nat}{ys:List Rat}(hx:xs.length=n)(hy:ys.length=n)(h:∀i,i<n->xs[i]?=some (ys.getD i 0)):xs=ys:=by
 apply List.ext_getElem?;intro i;by_cases hi:i<n
 ·rw [h i hi,ws (d:=0) za]
 ·rw [qN za,qN za]
theorem R7 {K' L:Nat}{C:List (List Rat)}(h:ym n n K M e)(hM:zM M n n)(hs:wK n K' L (aF M e) e.S C (uw n e b))(hb:b.length=n):wN M (wO n e.S C (uw n e b))=b:=by
 refine Uq (n:=n) (by rw [fY];exact hM.rows) hb λi hi=>?_;rw [cM (by rw [hM.rows];exact hi),eC (hM.row hi) ZX];exact congrArg some (h.solves hs hi)
theorem pY {α:Type}{E:El α}{w:World}{A:ze}{xs:List α}(h:yg E w A n c xs)(hm:m<=n):yg E w A m c (xs.take m):=
 ⟨by rw [qE,h.len];omega,qH hm h.fits,h.most,λi x hi=>h.num i x (by
  rw [xZ] at hi
  split at hi
  ·exact hi
  ·cases hi)⟩
theorem mq {z:Int}(h0:0<=z)(h1:z<=1048576):zn 1 (z:Rat):=
 ⟨by rw [YZ];omega,by rw [YJ];decide⟩
open Go Go.RowKit Go.Proofs.Tryz
set_option maxHeartbeats 16000000
set_option maxRecDepth 100000
section
variable {w:World}{A:ze}{n c K K0:Nat}{M:List (List Rat)}
theorem Sm (hd:¬ zB n (zl M)=0)(hT:zu w)(h:xm w A n c n M)(z:zW K0 M)(hW:yy K M)(hn:n<=64)(hK:67+65*K<=8388608)(a:K+K0<=33554432:=by omega)(d:0<K:=by omega):
  Calls prog 10 #[.agg #[.slice A n c,.int .i64 (n:Int)]] w λeo w'=>∃(g:Nat) (A:ze) (cA:Nat) (B:ze) (cB:Nat) (D:ze) (cD:Nat) (x0 x1 x2:Value) (qs:List Nat),eo=.returned (.tuple #[.pointer (some ⟨g,0,none⟩),.bool true])/\zE w' g n (xh M n) A n cA B n cB D n cD x0 x1 x2 qs/\Below w.heap.size w w':=by
 refine(ZZ hT h z hW hn hK a d).mono ?_;rintro eo w' (⟨hg,g,h1,-,⟨A,cA,B,cB,D,cD,x0,x1,x2,qs,hs⟩,hb⟩|⟨h0,-⟩)
 ·exact⟨g,A,cA,B,cB,D,cD,x0,x1,x2,qs,h1,hs,hb⟩
 ·exact absurd h0 hd
theorem Sk (hM:zM M n n)(hd:zB n (zl M)=0)(hT:zu w)(h:xm w A n c n M)(z:zW K0 M)(hW:yy K M)(hn:n<=64)(hK:67+65*K<=8388608)(a:K+K0<=33554432:=by omega)(d:0<K:=by omega):
  Calls prog 10 #[.agg #[.slice A n c,.int .i64 (n:Int)]] w λeo w'=>eo=.returned (.tuple #[.pointer none,.bool false])/\Below w.heap.size w w':=by
 refine(ZZ hT h z hW hn hK a d).mono ?_;rintro eo w' (⟨hg,-⟩|⟨-,h1,hb⟩)
 ·exact absurd hd (Oj (gK hM hn hW hg))
 ·exact⟨h1,hb⟩
theorem mC (hM:zM M n n)(hn:n<=64)(hW:yy K M)(hd:¬ zB n (zl M)=0):ym n n K M (xh M n):=by
 refine gK hM hn hW ?_;intro c
 induction c using Nat.strongRecOn with
 |_ c ih=>
   intro hc;have h1:=gK hM hn hW (c:=c) λk hk=>ih k hk za;by_cases hb:wH c (xh M c)<n - c
   ·exact hb
   ·exact absurd (To h1 hc hb) hd
end
open Go Go.RowKit Go.Proofs.Tryz
set_option maxHeartbeats 16000000
theorem TS {X:List (List Rat)}{v:List Rat}{i:Nat}(hi:i<n)(hj:j<m+1):zl (xw n m (m+1) X v) i j=if j=m then v.getD i 0 else zl X i j:=gH hi hj
theorem RF.cutNo (h:RF n (m+1) W lw R)(e:∀i,i<n->∀j,j<m->W i j=X i j)(hm:m ∉ lw):RF n m X lw R:=by
 have a:∀l,l<lw.length->lw.getD l 0<m:=λl hl=>by
  have h1:=h.lt l hl;have h2:lw.getD l 0≠m:=λe=>hm (e▸tW hl);omega
 refine⟨h.len,h.up,a,h.piv,λi h1 h2 j hj=>h.zero i h1 h2 j za,h.fore,λi hi j hj=>?_,λl hl=>?_⟩
 ·rw [<-e i hi j hj,h.sum i hi j za];exact zU λl hl=>by rw [e i hi _ (a l hl)]
 ·obtain⟨y,hy⟩:=h.span l hl;exact⟨y,λj hj=>(hy j za).trans (zU λi hi=>by rw [e i hi j hj])⟩
theorem Ua (h:RF n (m+1) W lw R)(hm:m ∈ lw):∃k,lw.length=k+1/\lw.getD k 0=m/\∀l,l<k->lw.getD l 0<m:=by
 obtain⟨q,hq,e⟩:=jS hm;have a:q=lw.length - 1:=by
  refine Classical.byContradiction λhne=>?_;have h1:=h.up q (lw.length - 1) za za;have h2:=h.lt (lw.length - 1) za;omega
 refine⟨lw.length - 1,za,by rw [<-a];exact e,λl hl=>?_⟩;have:=h.up l (lw.length - 1) hl za;rw [<-a,e] at this;exact this
theorem iQ {l:Nat}(h:l<k):(lw.take k).getD l 0=lw.getD l 0:=by
 rw [qQ,qQ,xZ,if_pos h]
theorem RF.cutYes (h:RF n (m+1) W lw R)(e:∀i,i<n->∀j,j<m->W i j=X i j)(hk:lw.length=k+1)(hm:lw.getD k 0=m)(d:∀l,l<k->lw.getD l 0<m):RF n m X (lw.take k) R:=by
 have a:(lw.take k).length=k:=by rw [qE];omega
 have hl0:=h.len;refine⟨za,λl l' h1 h2=>?_,λl hl=>?_,λl hl i hi=>?_,λi h1 h2 j hj=>?_,λl hl j hj=>?_,λi hi j hj=>?_,λl hl=>?_⟩
 ·rw [iQ za,iQ za];exact h.up l l' h1 za
 ·rw [iQ za];exact d l za
 ·rw [iQ za];exact h.piv l za i hi
 ·by_cases e2:i=k
  ·rw [e2];exact h.fore k za j (by rw [hm];exact hj)
  ·exact h.zero i za h2 j za
 ·rw [iQ za] at hj;exact h.fore l za j hj
 ·rw [<-e i hi j hj,h.sum i hi j za,hk,a,x4,h.fore k za j (by rw [hm];exact hj),xL,xY];exact zU λl hl=>by rw [iQ hl,e i hi _ (d l hl)]
 ·obtain⟨y,hy⟩:=h.span l za;exact⟨y,λj hj=>(hy j za).trans (zU λi hi=>by rw [e i hi j hj])⟩
def tf (m:Nat)(ld:List Nat)(R:Nat->Nat->Rat)(j:Nat):Rat:=zt ld.length λq=>(if j=ld.getD q 0 then 1 else 0)*R q m
theorem PZ (h:j ∉ ld):tf m ld R j=0:=by
 unfold tf;exact vS λq hq=>by rw [if_neg (λe:j=ld.getD q 0=>h (by rw [e];exact tW hq)),XL]
theorem P2 {M:Nat->Nat->Rat}(h:RF n p M ld R){l:Nat}(hl:l<ld.length):tf m ld R (ld.getD l 0)=R l m:=by
 unfold tf;have:zt ld.length (λq=>(if ld.getD l 0=ld.getD q 0 then 1 else 0)*R q m)=zt ld.length (λq=>(if q=l then 1 else 0)*R q m):=zU λq hq=>by
  by_cases e:q=l
  ·rw [if_pos e,if_pos (by rw [e])]
  ·rw [if_neg e,if_neg λk=>e (h.inj hl hq k).symm]
 rw [this,sY hl (λq=>R q m)]
theorem Ri (h:RF n (m+1) W lw R)(e:∀i,i<n->∀j,j<m->W i j=X i j)(hm:m ∉ lw){i:Nat}(hi:i<n):zt m (λj=>X i j*tf m lw R j)=W i m:=by
 have hx:=h.cutNo e hm;rw [h.sum i hi m za];have e1:zt m (λj=>X i j*tf m lw R j)=zt m (λj=>zt lw.length λq=>(if j=lw.getD q 0 then 1 else 0)*(X i j*R q m)):=zU λj _=>by
  unfold tf;rw [wJ];exact zU λq _=>by grind
 rw [e1,iO];refine zU λq hq=>?_;rw [sY (hx.lt q hq) λj=>X i j*R q m,e i hi _ (hx.lt q hq)]
theorem mI (h:RF n (m+1) W lw R)(e:∀i,i<n->∀j,j<m->W i j=X i j){y:Nat->Rat}(hy:∀i,i<n->W i m=zt m λj=>X i j*y j):m ∉ lw:=λhm=>by
 obtain⟨k,hk,a,hlt⟩:=Ua h hm;obtain⟨u,hu⟩:=h.span k za;have h1:=h.piv k za k (by have:=h.len;omega);rw [if_pos rfl,a,hu m za] at h1;have h2:zt n (λi=>u i*W i m)=zt n (λi=>zt m λj=>y j*(u i*X i j)):=zU λi hi=>by
  rw [hy i hi,wJ];exact zU λj _=>by grind
 rw [h2,iO] at h1;have h3:zt m (λj=>zt n λi=>y j*(u i*X i j))=0:=vS λj hj=>by
  rw [<-wJ];have h4:=h.fore k za j (by rw [a];exact hj);rw [hu j za] at h4;have h5:zt n (λi=>u i*X i j)=zt n (λi=>u i*W i j):=zU λi hi=>by rw [e i hi j hj]
  rw [h5,h4,xL]
 rw [h3] at h1;exact absurd h1 (by decide+kernel)
theorem Zy {m:Nat}{ld:List Nat}{R:List (List Rat)}{j:Nat}(h:j ∉ ld):∀i,i<=ld.length->(nH m ld R i).getD j 0=0
 |0,_=>by
   show(List.replicate m (0:Rat)).getD j 0=0;rw [qQ,List.getElem?_replicate];split<;>rfl
 |i+1,hi=>by
   rw [cK,qQ,List.getElem?_set,if_neg (λe:ld.getD i 0=j=>h (by rw [<-e];exact tW za)),<-qQ];exact Zy h i za
theorem WZ {n m:Nat}{ld:List Nat}{M:Nat->Nat->Rat}{R:List (List Rat)}{q:Nat}(h:RF n m M ld (zl R))(hq:q<ld.length):∀i,i<=ld.length->q<i->(nH m ld R i).getD (ld.getD q 0) 0=zl R q m
 |0,_,h0=>by omega
 |i+1,hi,hqi=>by
   rw [cK,qQ,List.getElem?_set,ZQ];by_cases e:i=q
   ·subst e;rw [if_pos rfl,if_pos (h.lt i hq)];rfl
   ·rw [if_neg (λe2=>e (h.inj za hq e2)),<-qQ];exact WZ h hq i za za
structure gQ (n m:Nat)(X:List (List Rat))(v:List Rat):Prop where
 x:tB m (yp (m+1) (xw n m (m+1) X v)).ld (uY (m+1) (xw n m (m+1) X v))=[]
 c:rp m (yp (m+1) (xw n m (m+1) X v)).ld=1
 rank:(yp (m+1) (xw n m (m+1) X v)).ld.length=(yp m X).ld.length+1
 un:∀y:List Rat,y.length=m->v≠wN X y
structure kO (n m:Nat)(X:List (List Rat))(v:List Rat)(x:List Rat)(z:Int):Prop where
 ex:tB m (yp (m+1) (xw n m (m+1) X v)).ld (uY (m+1) (xw n m (m+1) X v))=x
 ec:rp m (yp (m+1) (xw n m (m+1) X v)).ld=z
 len:x.length=m
 free:∀j,j<m->j ∉(yp m X).ld->x.getD j 0=0
 times:wN X x=v
 rank:(yp (m+1) (xw n m (m+1) X v)).ld.length=(yp m X).ld.length
 c:z=if (yp m X).ld.length=m then 2 else 3
theorem jv {X:List (List Rat)}{v:List Rat}(h:zM X n m)(hv:v.length=n):gQ n m X v\/∃x z,kO n m X v x z:=by
 have hW:RF n (m+1) (zl (xw n m (m+1) X v)) (yp (m+1) (xw n m (m+1) X v)).ld (zl (uY (m+1) (xw n m (m+1) X v))):=aL (ZD _ _ _ _ _);have hX:=aL h;have e:∀i,i<n->∀j,j<m->zl (xw n m (m+1) X v) i j=zl X i j:=λi hi j hj=>by rw [TS hi za,if_neg za]
 have e2:∀i,i<n->zl (xw n m (m+1) X v) i m=v.getD i 0:=λi hi=>by rw [TS hi za,if_pos rfl]
 by_cases hm:m ∈(yp (m+1) (xw n m (m+1) X v)).ld
 ·left
  obtain⟨k,hk,g,o⟩:=Ua hW hm;have hc:=hW.cutYes e hk g o;have ho:=(hX.one hc (λi hi=>Sp.row hi) (λi hi=>Sp.row hi)).1;refine⟨by unfold tB;rw [if_pos hm],by unfold rp;rw [if_pos hm],by rw [ho,qE];omega,λy hy s=>?_⟩;refine mI hW e (y:=λj=>y.getD j 0) (λi hi=>?_) hm;have t:=h.rows;rw [e2 i hi,s];unfold wN;rw [qQ,qW,ws (d:=[]) za];exact eC (h.row hi) hy
 ·right
  have hc:=hW.cutNo e hm;have ho:=(hX.one hc (λi hi=>Sp.row hi) (λi hi=>Sp.row hi)).1;refine⟨_,_,rfl,rfl,by unfold tB;rw [if_neg hm];exact ZQ _ _ _ _,λj hj a=>?_,?_,by rw [ho],?_⟩
  ·unfold tB;rw [if_neg hm];exact Zy (by rw [<-ho];exact a) _ (qX _)
  ·have t:=h.rows;refine yI (by rw [fY];omega) λi h1 h2=>?_;have hi:i<n:=za;have e5:v[i]=v.getD i 0:=by rw [qQ,qY h2];rfl
   have e6:=cM (M:=X) (v:=tB m (yp (m+1) (xw n m (m+1) X v)).ld (uY (m+1) (xw n m (m+1) X v))) (i:=i) za;rw [qY h1] at e6;rw [Option.some.inj e6,e5,<-e2 i hi,<-Ri hW e hm hi,eC (k:=m) (h.row hi) (by unfold tB;rw [if_neg hm];exact ZQ _ _ _ _)];refine zU λj hj=>?_;show zl X i j*_=zl X i j*_;congr 1;unfold tB;rw [if_neg hm];by_cases hl:j ∈(yp (m+1) (xw n m (m+1) X v)).ld
   ·obtain⟨q,hq,rfl⟩:=jS hl;rw [WZ hc hq _ (qX _) hq,P2 hW hq]
   ·rw [Zy hl _ (qX _),PZ hl]
  ·unfold rp;rw [if_neg hm,<-ho];have:=hX.len;have hall:(yp m X).ld.length<=m:=by
    have:=Zn hX.rising λl hl=>by obtain⟨q,hq,rfl⟩:=jS hl;exact hX.lt q hq
    omega
   by_cases hq:(yp m X).ld.length=m
   ·rw [if_pos hq,if_neg za]
   ·rw [if_neg hq,if_pos za]
