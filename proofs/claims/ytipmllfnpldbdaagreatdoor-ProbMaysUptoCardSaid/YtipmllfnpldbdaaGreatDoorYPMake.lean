/- What this claim leans on. -/
import Derived.Test.YtipmllfnpldbdaaGreatDoorYPGrow
set_option linter.unusedVariables false
set_option linter.unusedSimpArgs false
namespace Go.Proofs.YtipmllfnpldbdaaGreatDoor
open Go Go.RowKit Go.Proofs.Tryz
set_option maxHeartbeats 16000000
set_option maxRecDepth 100000
set_option maxHeartbeats 8000000
variable {vs:List Value}{g j:Nat}{v:Value}{w w':World}{A5:zf}
def x6 (x:vd):PR:=⟨xf x.L,x.k,ut x.p x.q⟩
def rj (R:Nat->vd)(n:Nat):List PR:=(List.range n).map λr=>x6 (R r)
def pB (L:List (Int×Int))(R:Nat->vd)(n:Nat):PB:=⟨xf L,rj R n⟩
theorem nN (R:Nat->vd)(n:Nat):(rj R n).length=n:=by simp [rj]
theorem jd (R:Nat->vd)(n:Nat):rj R (n+1)=rj R n++[x6 (R n)]:=by simp [rj,YM]
theorem VQ (R:Nat->vd){n i:Nat}(h:i<n):(rj R n).getD i zN=x6 (R i):=by
 unfold rj;rw [qQ,QB,XP h];rfl
def gF (w:World)(P:PB)(e:Ending)(w':World):Prop:=∃(D:zf) (d:Nat) (A:zf) (q:Nat),e=.returned (.agg #[.slice D P.cost.length d,.slice A P.rows.length q])/\ub w' D P.cost.length d A P.rows.length q P/\Below w.heap.size w w'
theorem pX {ad:Addr}{k:Nat}(h:w.cell? (ad.add (k+3))=some v):w.cell? ⟨(ad.add k).block,(ad.add k).off+3,none⟩=some v:=by
 rw [<-kL] at h;exact h
theorem xx.blk {a:Nat}{ps:List PR}{t:TypeId}{cs:Array Value}(h:xx w a v ps vs)(hg:w.grownBy w' v.ownBlock)(hk:zi w g t cs)(ht:t≠83):zi w' g t cs:=by
 refine Yn hk hg (λe=>?_);rcases h.own.2 with⟨rfl,_⟩|⟨g2,cap,cur,rfl,_,hk2,_⟩
 ·cases e
 ·obtain rfl:g2=g:=by simpa [Value.ownBlock] using e
  exact xy hk (show zi w g2 83 cur from hk2) ht rfl
theorem xx.far {ps:List PR}{t:TypeId}{cs:Array Value}(h:xx w j v ps vs)(hk:zi w g t cs)(hn:vB .u64 cs)(l:Nat)(y:Value)(hr:t≠60)(ht:t≠83):xx (w.setCell ⟨g,l,none⟩ y) j v ps vs:=by
 have ho:zY g w (w.setCell ⟨g,l,none⟩ y):=zY.of_far ((xe.refl g w).set_ l _);refine⟨⟨h.own.1,?_⟩,λq e=>?_,λi p hi=>?_⟩
 ·rcases h.own.2 with h1|⟨q,cap,a,e1,e2,e3,e4⟩
  ·exact .inl h1
  ·exact .inr ⟨q,cap,a,e1,e2,zi.far (p:=⟨g,l,none⟩) (show zi w q 83 a from e3) (λe=>xy hk (show zi w q 83 a from e3) ht e.symm) _,e4⟩
 ·obtain⟨a,e2,h1,h2⟩:=h.now q e;rcases h.own.2 with⟨rfl,_⟩|⟨q2,cap,cur2,rfl,_,hk2,_⟩
  ·cases e
  ·obtain rfl:q2=q:=by simpa [Value.ownBlock] using e
   exact⟨a,e2,zi.far (p:=⟨g,l,none⟩) (show zi w q2 e2 a from h1) (λe=>xy hk (show zi w q2 83 cur2 from hk2) ht e.symm) _,h2⟩
 ·obtain⟨C,c,b,B,m,d,E,u,f,h0,h1,h2,h3,h4,h5,h6,h7⟩:=h.num i p hi;have x:∀ad,C=some ad->ad.block≠g:=λad e=>(h6 ad e).ne hk hr.symm;exact⟨C,c,b,B,m,d,E,u,f,h0,h1,h2,h3,h4,zF.offB h5 hk hn ho x,λad e=>(h6 ad e).set_ _ _ _,nZ hk hn ho h7⟩
theorem kk (A B:zf)(n c m d:Nat):vB .u64 #[.slice A n c,.slice B m d]:=by
 intro u hu z e;simp at hu;rcases hu with rfl|rfl<;>cases e
theorem jD {P:Program}{o:Oper}{a:Act}{K:Act->World->Prop}{Q:Exit->Act->World->Prop}(s x:Operand)(dT sT:TypeId){v u r:Value}
  (ho:o.op=.call {callee:=.builtin .append,args:=#[s,x],argTypes:=#[dT,sT]}) (hs:a.eval s=v) (hx:a.eval x=u) (hr:(Builtin.append_ #[dT,sT] o.type #[v,u]).run P w=.ok r w') (h:K (a.put o.dst r) w'):Oper.wp P o a w K Q:=by
 unfold Oper.wp execOp;simp only [ho,resolve,invoke,builtin,Sem.run_bind,Sem.run_pure,Result.andThen_ok,YR,YK,List.map_nil,hs,hx,hr];exact h
structure rr (w wr:World)(A:zf)(n c:Nat)(B:zf)(m e:Nat)(C:zf)(nC cC g3:Nat)(xs:List Rat)(v:Value)(ps:List PR)(vs:List Value):Prop where
 below:Below w.heap.size w wr
 raw:zi wr w.heap.size 68 #[.slice A n c,.slice B m e]
 res:zi wr (w.heap.size+1) 42 #[.slice none 0 0,.slice none 0 0]
 box:zi wr g3 42 #[.slice C nC cC,v]
 cost:zF wr C nC cC xs
 ty:∀ad,C=some ad->yv wr ad.block 60
 rows:xx wr w.heap.size v ps vs
 hg:w.heap.size+2<=g3
section
variable {w wr:World}{A:zf}{n c:Nat}{B:zf}{m e:Nat}{C:zf}{nC cC g3:Nat}{xs:List Rat}{v:Value}{ps:List PR}{vs:List Value}
theorem rr.keep {w':World}(h:rr w wr A n c B m e C nC cC g3 xs v ps vs)(hb:Below wr.heap.size wr w'):rr w w' A n c B m e C nC cC g3 xs v ps vs:=
 ⟨ze h.below hb,zj hb h.raw,zj hb h.res,zj hb h.box,zF.keep h.cost hb,λad e=>(h.ty ad e).below hb,h.rows.below hb,h.hg⟩
theorem rr.step {c5 q9:Nat}{p:PR}{C1:zf}{n1 t:Nat}{b:Bool}{B2:zf}{m2 d2:Nat}{E2:zf}{u2 f2:Nat}(h:rr w wr A n c B m e C nC cC g3 xs (.slice A5 j c5) ps vs)(hj:ps.length=j)(hjm:j<=1048576)
  (hc:zF wr C1 n1 t p.co) (ht:∀ad,C1=some ad->yv wr ad.block 60) (hq:zu wr p.rhs b B2 m2 d2 E2 u2 f2) (hl:∀j a,[Value.slice C1 n1 t,.int .i64 p.kd,.bool b,.slice B2 m2 d2,.slice E2 u2 f2][j]?=some a->wr.cell? ((⟨q9,0,none⟩:Addr).add j)=some a):
  ∃ v' w8,(Builtin.append_ #[40,40] 40 #[.slice A5 j c5,.slice (some ⟨q9,0,none⟩) 1 1]).run prog wr = .ok v' w8 ∧ Below w.heap.size w w8 ∧ zi w8 w.heap.size 68 #[.slice A n c,.slice B m e] ∧ zi w8 g3 42 #[.slice C nC cC,.slice A5 j c5] ∧
   rr w (w8.setCell ⟨g3,1,none⟩ v') A n c B m e C nC cC g3 xs v' (ps++[p]) (vs++[.slice C1 n1 t,.int .i64 p.kd,.bool b,.slice B2 m2 d2,.slice E2 u2 f2]):=by
 obtain⟨i9,I,M,E,F⟩:=info_parts qr;have i:w.heap.size<=wr.heap.size:=h.below.size;have u:=h.rows.own;rw [hj] at u;obtain⟨v',w8,hr,z,d,-,y⟩:=ZP (P:=prog) (Φ:=mZ) wr w.heap.size 40 40 83 i9 (.agg #[.slice none 0 0,.int .i64 0,.bool false,.slice none 0 0,.slice none 0 0]) 5 88 underlying40 I M E F rfl zh (.slice A5 j c5) j vs u ⟨q9,0,none⟩ 1 1 [.slice C1 n1 t,.int .i64 p.kd,.bool b,.slice B2 m2 d2,.slice E2 u2 f2] rfl hl (tQ _ _ _ _ _ _ _ _ _ _ _) (by unfold maxLen;omega) za i h.rows.now UC (tP _ _ _ _ _ _ _ _ _ _ _);have x:=h.rows.blk d h.raw zh;have L:=h.rows.blk d h.res zh;have g:=h.rows.blk d h.box zh;have v:=iw h.rows d h.cost h.ty;have G:=xx.grow (p:=p) h.rows hc ht hq z (by rw [hj]) d y;have D:Below w.heap.size w w8:=h.below.grown d i (λq e=>by
  rcases h.rows.own.2 with⟨h1,_⟩|⟨g2,cap,cur,h1,h2,_⟩
  ·rw [h1] at e;cases e
  ·rw [h1] at e;obtain rfl:g2=q:=by simpa [Value.ownBlock] using e
   exact h2)
 have hh:=h.hg;have H:=G.far g (kk _ _ _ _ _ _) 1 v' zh zh;have J:=kk C A5 nC cC j c5;have K:zY g3 w8 (w8.setCell ⟨g3,1,none⟩ v'):=zY.of_far ((xe.refl g3 w8).set_ 1 _);exact ⟨v',w8,hr,D,x,g,zH (p:=⟨g3,1,none⟩) v' (show w.heap.size ≤ g3 by omega) D,zi.far (p:=⟨g3,1,none⟩) x (xy x g zh) v',zi.far (p:=⟨g3,1,none⟩) L (show w.heap.size + 1 ≠ g3 by omega) v',g.set_ 1 v',
  zF.offB v.1 g J K (λad e=>(v.2 ad e).ne g zh),λad e=>(v.2 ad e).set_ _ _ _,H,hh⟩
theorem rr.done {c5:Nat}(h:rr w wr A n c B m e C nC cC g3 xs (.slice A5 j c5) ps vs)(hj:ps.length=j)(hx:xs.length=nC):gF w ⟨xs,ps⟩ (.returned (.agg #[.slice C nC cC,.slice A5 j c5])) ((wr.setCell ⟨w.heap.size+1,0,none⟩ (.slice C nC cC)).setCell ⟨w.heap.size+1,1,none⟩ (.slice A5 j c5)):=by
 have a:=h.rows.far h.res (kk _ _ _ _ _ _) 0 (.slice C nC cC) zh zh;have d:=a.far (h.res.set_ 0 (.slice C nC cC)) (kk _ _ _ _ _ _) 1 (.slice A5 j c5) zh zh;obtain⟨A6,c6,e6,h1,h2,h3,-⟩:=d.shape;rw [hj] at e6 h1 h2;injection e6 with e7 e8 e9;subst e7;subst e9;have ho:=zY.of_far (wS wr (w.heap.size+1) (.slice C nC cC) (.slice A5 j c5));have hv:zF ((wr.setCell ⟨w.heap.size+1,0,none⟩ (.slice C nC cC)).setCell ⟨w.heap.size+1,1,none⟩ (.slice A5 j c5)) C nC cC xs:=zF.offB h.cost h.res (kk _ _ _ _ _ _) ho (λad e=>(h.ty ad e).ne h.res zh);unfold gF;rw [show(PB.mk xs ps).cost.length=nC from hx,show(PB.mk xs ps).rows.length=j from hj];exact⟨C,cC,A5,c5,rfl,⟨hv,h1,h2,h3,λad e=>((h.ty ad e).set_ _ _ _).set_ _ _ _⟩,rt _ _ za h.below⟩
end
theorem WR {A:zf}{n c:Nat}{L:List (Int×Int)}{B:zf}{m e:Nat}{R:Nat->vd}(hT:zv w)(h:vm w A n c L)(hr:rF w B m e R):
  Calls prog 18 #[.agg #[.slice A n c,.slice B m e]] w (gF w (pB L R m)):=by
 obtain⟨X,aa,ag,bz⟩:=yb w 68 42 #[.slice A n c,.slice B m e] #[.slice none 0 0,.slice none 0 0];obtain⟨g0,g1⟩:=aa.c2;have HM:=zd (ic (hT.on X) (h.below X));have HB:=zd X;have HK:=zd aa;have HR:=zd ag;have HT:=zd (λW (hb:Below w.heap.size w W)=>hT.on hb);have HL:=zd hr.row;have hm9:m<=1048576:=qC hr.fits hr.small;have Y:zg ((xf L).length=n):=by show _=_;rw [jm];exact h.len
 have i0:(0:Int)<=(m:Int):=za;clear h hr hT X aa ag bz;go_enter func18,ntmps18;go_wp2_with fail;generalize (w.alloc (.cells #[.slice A n c,.slice B m e] 68)).alloc (.cells #[.slice none 0 0,.slice none 0 0] 42)=W1 at*;refine HM.o.mono ?_;rintro eo w2 ⟨v,vs,rfl,hv,hb⟩;obtain⟨C,cC,rfl,hc,ac⟩:=hv.shape;have ai:=hv.ty;rw [Y.o] at hc;rw [Y.o];obtain⟨st,d3,d4⟩:=zG w2 42 #[.slice C n cC,.slice none 0 0];have H : zg (rr w (w2.alloc (.cells #[.slice C n cC,.slice none 0 0] 42)) A n c B m e C n cC w2.heap.size (xf L) (.slice none 0 0) [] []) :=
  ⟨ze (ze HB.o hb) st,zj st (zj hb HK.o),zj st (zj hb HR.o),d3,zF.keep hc st,λad e=>(ai ad e).below st,xx.nil _ _,by
   have h1:=hb.size;have h2:=HR.o.lt;omega⟩
 clear hb st d3 d4 hv hc ai ac HB HK HR HM g0 g1;go_wp2_with fail;generalize w2.alloc (.cells #[.slice C n cC,.slice none 0 0] 42)=W3 at*;generalize w2.heap.size=g3 at*
 go_loopg [4] (m+1) (λg ix wr=>∃(j:Nat) (v:Value) (vs:List Value),j<=m/\m<g+j/\ix=.int .i64 j/\zg (rr w wr A n c B m e C n cC g3 (xf L) v (rj R j) vs))
 case atStart=>exact⟨0,_,[],xQ _,za,rfl,H⟩
 case round=>
  clear H;obtain⟨j,v,vs,hjm,hg,rfl,H⟩:=hrel;obtain⟨A5,c5,rfl,-,-,-,-⟩:=H.o.rows.shape;rw [nN] at*;obtain⟨k0,k1⟩:=H.o.raw.c2;obtain⟨x0,x1⟩:=H.o.box.c2;by_cases hlt:j<m
  ·obtain⟨ah,ad,rfl,-,c0,c1,c2,c3⟩:=HL.o j hlt;have hB:=H.o.below;have c0:=zq hB c0;have c1:=zq hB (v8 c1);have c2:=zq hB (rh c2);have c3:=zq hB (pX c3);have aj:decide ((j:Int)<(m:Int))=true:=decide_eq_true za;have i1:(0:Int)<=(j:Int):=za;have i2:(j:Int)<(m:Int):=za;have J:=zd ah;clear hB ah;obtain⟨x,ab⟩:∃x,R j=x:=⟨_,rfl⟩;have O:=zd ab;rw [ab] at c0 c1 c2 c3 J;clear ab;go_upto_region 5 with fail;have T:=zd ((qY wr.heap.size wr).drew);refine rg (zk k1 (zk c0 (zk c1 (zk c2 (zk c3 zQ))))) (λhHeld=>?_);clear k0 k1 x0 x1 c0 c1 c2 c3;have a:=zd (H.o.keep T.o);generalize wr.drew=D1 at*;refine tk 0 ?_;refine tk 2 ?_;refine tk 3 ?_;refine tk 4 ?_;refine tk 5 ?_;refine tk 6 ?_;refine tk 7 ?_;refine tk 9 ?_;refine tk 10 ?_;refine tk 11 ?_;refine tk 12 ?_;refine tk 13 ?_;refine tk 14 ?_;refine tk 15 ?_;refine tk 16 ?_;refine tk 17 ?_;refine tk 18 ?_;refine tk 19 ?_;refine tk 20 ?_;refine pD 1 8 (λKK hK=>?_) (λKK hK=>?_)
   ·skip
    have x1:=a.o.box.c2.2;go_simp;refine hK.out _ _ hHeld (λhHeld=>?_);clear hK KK x1;refine rc 8 (λKK hK=>?_);go_simp;(with_reducible refine(ic (HT.o _ a.o.below) (J.o.co.below a.o.below)).mono ?_);rintro eo af ⟨v1,ak,rfl,hv,hb⟩;obtain⟨C1,K,rfl,V,-⟩:=hv.shape;have u:zg (∀ad,C1=some ad->yv af ad.block 60):=hv.ty;have d:=zd V;refine hK.out _ _ (Cs.below hHeld hb) (λhHeld=>?_);have a:=zd (a.o.keep hb);clear hK KK hb hv V;refine rc 21 (λKK hK=>?_);go_simp;(with_reducible refine(kW (HT.o _ a.o.below) J.o.p J.o.q).mono ?_);rintro eo y ⟨b2,B2,m2,d2,E2,u2,f2,rfl,hq,hb⟩;have u:zg (∀ad,C1=some ad->yv y ad.block 60):=λad e=>(u.o ad e).below hb;have d:=zd (zF.keep d.o hb);have HQ:=zd hq;refine hK.out _ _ (Cs.below hHeld hb) (λhHeld=>?_);have a:=zd (a.o.keep hb);clear hK KK hb hq;refine tk 22 ?_;refine rc 23 (λKK hK=>?_);go_simp;obtain⟨t1,t2,-⟩:=zG y 83 #[.slice C1 (xf x.L).length K,.int .i64 x.k,.bool b2,.slice B2 m2 d2,.slice E2 u2 f2];have u:zg (∀ad,C1=some ad->yv (y.alloc (.cells #[.slice C1 (xf x.L).length K,.int .i64 x.k,.bool b2,.slice B2 m2 d2,.slice E2 u2 f2] 83)) ad.block 60):=λad e=>(u.o ad e).below t1;have d:=zd (zF.keep d.o t1);have HQ:=zd (HQ.o.below t1);have i:=zd (kN t2);refine hK.out _ _ (Cs.below hHeld t1) (λhHeld=>?_);have a:=zd (a.o.keep t1);clear hK KK t1 t2;generalize y.alloc (.cells #[.slice C1 (xf x.L).length K,.int .i64 x.k,.bool b2,.slice B2 m2 d2,.slice E2 u2 f2] 83)=U at*;generalize y.heap.size=q9 at*;obtain⟨v',w8,G,M,N,I,F⟩:=a.o.step (p:=x6 x) (nN R j) za d.o u.o HQ.o i.o;rw [<-O.o,<-jd] at F;obtain⟨A6,c6,rfl,-,-,-,-⟩:=F.rows.shape;obtain⟨-,Z,e9,-,c0,c1,c2,c3⟩:=HL.o j hlt;injection e9 with e9;subst e9;rw [O.o] at c0 c1 c2 c3;have t:=zd F;have P:=I.c2.2;have Q:=I.frozen 1;have S:=zd N.c2.2;have D:=zd M;refine rc 24 (λKK hK=>?_);refine jD (.tmp 17) (.tmp 39) 40 40 rfl rfl rfl G ?_;refine hK.out _ _ (zk S.o (zk (zq D.o c0) (zk (zq D.o (v8 c1)) (zk (zq D.o (rh c2)) (zk (zq D.o (pX c3)) zQ))))) (λhHeld=>?_);clear hK KK G M N I F;refine tk 25 ?_;refine rc 26 (λKK hK=>?_);go_simp;have z:=t.o.below;refine hK.out _ _ (zk t.o.raw.c2.2 (zk (zq z c0) (zk (zq z (v8 c1)) (zk (zq z (rh c2)) (zk (zq z (pX c3)) zQ))))) (λhHeld=>?_);clear hK KK c0 c1 c2 c3 P Q z;refine z8 ?_;clear hHeld H a T J d u HQ i;go_wp2;go_roundg (m - j)
    case measure=>omega
    case rel=>exact⟨j+1,_,_,za,za,by go_num,t⟩
   ·skip
    go_simp;(with_reducible refine(ic (HT.o _ a.o.below) (J.o.co.below a.o.below)).mono ?_);rintro eo ae ⟨v1,ak,rfl,hv,hb⟩;obtain⟨C1,K,rfl,V,-⟩:=hv.shape;have u:zg (∀ad,C1=some ad->yv ae ad.block 60):=hv.ty;have d:=zd V;refine hK.out _ _ (Cs.below hHeld hb) (λhHeld=>?_);have a:=zd (a.o.keep hb);clear hK KK hb hv V;refine pD 1 21 (λKK hK=>?_) (λKK hK=>?_)
    ·skip
     have x1:=a.o.box.c2.2;go_simp;refine hK.out _ _ hHeld (λhHeld=>?_);clear hK KK x1;refine rc 21 (λKK hK=>?_);go_simp;(with_reducible refine(kW (HT.o _ a.o.below) J.o.p J.o.q).mono ?_);rintro eo y ⟨b2,B2,m2,d2,E2,u2,f2,rfl,hq,hb⟩;have u:zg (∀ad,C1=some ad->yv y ad.block 60):=λad e=>(u.o ad e).below hb;have d:=zd (zF.keep d.o hb);have HQ:=zd hq;refine hK.out _ _ (Cs.below hHeld hb) (λhHeld=>?_);have a:=zd (a.o.keep hb);clear hK KK hb hq;refine tk 22 ?_;refine rc 23 (λKK hK=>?_);go_simp;obtain⟨t1,t2,-⟩:=zG y 83 #[.slice C1 (xf x.L).length K,.int .i64 x.k,.bool b2,.slice B2 m2 d2,.slice E2 u2 f2];have u:zg (∀ad,C1=some ad->yv (y.alloc (.cells #[.slice C1 (xf x.L).length K,.int .i64 x.k,.bool b2,.slice B2 m2 d2,.slice E2 u2 f2] 83)) ad.block 60):=λad e=>(u.o ad e).below t1;have d:=zd (zF.keep d.o t1);have HQ:=zd (HQ.o.below t1);have i:=zd (kN t2);refine hK.out _ _ (Cs.below hHeld t1) (λhHeld=>?_);have a:=zd (a.o.keep t1);clear hK KK t1 t2;generalize y.alloc (.cells #[.slice C1 (xf x.L).length K,.int .i64 x.k,.bool b2,.slice B2 m2 d2,.slice E2 u2 f2] 83)=U at*;generalize y.heap.size=q9 at*;obtain⟨v',w8,G,M,N,I,F⟩:=a.o.step (p:=x6 x) (nN R j) za d.o u.o HQ.o i.o;rw [<-O.o,<-jd] at F;obtain⟨A6,c6,rfl,-,-,-,-⟩:=F.rows.shape;obtain⟨-,Z,e9,-,c0,c1,c2,c3⟩:=HL.o j hlt;injection e9 with e9;subst e9;rw [O.o] at c0 c1 c2 c3;have t:=zd F;have P:=I.c2.2;have Q:=I.frozen 1;have S:=zd N.c2.2;have D:=zd M;refine rc 24 (λKK hK=>?_);refine jD (.tmp 17) (.tmp 39) 40 40 rfl rfl rfl G ?_;refine hK.out _ _ (zk S.o (zk (zq D.o c0) (zk (zq D.o (v8 c1)) (zk (zq D.o (rh c2)) (zk (zq D.o (pX c3)) zQ))))) (λhHeld=>?_);clear hK KK G M N I F;refine tk 25 ?_;refine rc 26 (λKK hK=>?_);go_simp;have z:=t.o.below;refine hK.out _ _ (zk t.o.raw.c2.2 (zk (zq z c0) (zk (zq z (v8 c1)) (zk (zq z (rh c2)) (zk (zq z (pX c3)) zQ))))) (λhHeld=>?_);clear hK KK c0 c1 c2 c3 P Q z;refine z8 ?_;clear hHeld H a T J d u HQ i;go_wp2;go_roundg (m - j)
     case measure=>omega
     case rel=>exact⟨j+1,_,_,za,za,by go_num,t⟩
    ·skip
     go_simp;(with_reducible refine(kW (HT.o _ a.o.below) J.o.p J.o.q).mono ?_);rintro eo E ⟨b2,B2,m2,d2,E2,u2,f2,rfl,hq,hb⟩;have u:zg (∀ad,C1=some ad->yv E ad.block 60):=λad e=>(u.o ad e).below hb;have d:=zd (zF.keep d.o hb);have HQ:=zd hq;refine hK.out _ _ (Cs.below hHeld hb) (λhHeld=>?_);have a:=zd (a.o.keep hb);clear hK KK hb hq;refine tk 22 ?_;refine pD 1 23 (λKK hK=>?_) (λKK hK=>?_)
     ·skip
      have x1:=a.o.box.c2.2;go_simp;refine hK.out _ _ hHeld (λhHeld=>?_);clear hK KK x1;refine rc 23 (λKK hK=>?_);go_simp;obtain⟨t1,t2,-⟩:=zG E 83 #[.slice C1 (xf x.L).length K,.int .i64 x.k,.bool b2,.slice B2 m2 d2,.slice E2 u2 f2];have u:zg (∀ad,C1=some ad->yv (E.alloc (.cells #[.slice C1 (xf x.L).length K,.int .i64 x.k,.bool b2,.slice B2 m2 d2,.slice E2 u2 f2] 83)) ad.block 60):=λad e=>(u.o ad e).below t1;have d:=zd (zF.keep d.o t1);have HQ:=zd (HQ.o.below t1);have i:=zd (kN t2);refine hK.out _ _ (Cs.below hHeld t1) (λhHeld=>?_);have a:=zd (a.o.keep t1);clear hK KK t1 t2;generalize E.alloc (.cells #[.slice C1 (xf x.L).length K,.int .i64 x.k,.bool b2,.slice B2 m2 d2,.slice E2 u2 f2] 83)=U at*;generalize E.heap.size=q9 at*;obtain⟨v',w8,G,M,N,I,F⟩:=a.o.step (p:=x6 x) (nN R j) za d.o u.o HQ.o i.o;rw [<-O.o,<-jd] at F;obtain⟨A6,c6,rfl,-,-,-,-⟩:=F.rows.shape;obtain⟨-,Z,e9,-,c0,c1,c2,c3⟩:=HL.o j hlt;injection e9 with e9;subst e9;rw [O.o] at c0 c1 c2 c3;have t:=zd F;have P:=I.c2.2;have Q:=I.frozen 1;have S:=zd N.c2.2;have D:=zd M;refine rc 24 (λKK hK=>?_);refine jD (.tmp 17) (.tmp 39) 40 40 rfl rfl rfl G ?_;refine hK.out _ _ (zk S.o (zk (zq D.o c0) (zk (zq D.o (v8 c1)) (zk (zq D.o (rh c2)) (zk (zq D.o (pX c3)) zQ))))) (λhHeld=>?_);clear hK KK G M N I F;refine tk 25 ?_;refine rc 26 (λKK hK=>?_);go_simp;have z:=t.o.below;refine hK.out _ _ (zk t.o.raw.c2.2 (zk (zq z c0) (zk (zq z (v8 c1)) (zk (zq z (rh c2)) (zk (zq z (pX c3)) zQ))))) (λhHeld=>?_);clear hK KK c0 c1 c2 c3 P Q z;refine z8 ?_;clear hHeld H a T J d u HQ i;go_wp2;go_roundg (m - j)
      case measure=>omega
      case rel=>exact⟨j+1,_,_,za,za,by go_num,t⟩
     ·skip
      go_simp;obtain⟨t1,t2,-⟩:=zG E 83 #[.slice C1 (xf x.L).length K,.int .i64 x.k,.bool b2,.slice B2 m2 d2,.slice E2 u2 f2];have u:zg (∀ad,C1=some ad->yv (E.alloc (.cells #[.slice C1 (xf x.L).length K,.int .i64 x.k,.bool b2,.slice B2 m2 d2,.slice E2 u2 f2] 83)) ad.block 60):=λad e=>(u.o ad e).below t1;have d:=zd (zF.keep d.o t1);have HQ:=zd (HQ.o.below t1);have i:=zd (kN t2);refine hK.out _ _ (Cs.below hHeld t1) (λhHeld=>?_);have a:=zd (a.o.keep t1);clear hK KK t1 t2;generalize E.alloc (.cells #[.slice C1 (xf x.L).length K,.int .i64 x.k,.bool b2,.slice B2 m2 d2,.slice E2 u2 f2] 83)=X23_0 at*;generalize E.heap.size=q9 at*;refine rc 1 (λKK hK=>?_);have x1:=a.o.box.c2.2;go_simp;refine hK.out _ _ hHeld (λhHeld=>?_);clear hK KK x1;obtain⟨v',w8,G,M,N,I,F⟩:=a.o.step (p:=x6 x) (nN R j) za d.o u.o HQ.o i.o;rw [<-O.o,<-jd] at F;obtain⟨A6,c6,rfl,-,-,-,-⟩:=F.rows.shape;obtain⟨-,Z,e9,-,c0,c1,c2,c3⟩:=HL.o j hlt;injection e9 with e9;subst e9;rw [O.o] at c0 c1 c2 c3;have t:=zd F;have P:=I.c2.2;have Q:=I.frozen 1;have S:=zd N.c2.2;have D:=zd M;refine rc 24 (λKK hK=>?_);refine jD (.tmp 17) (.tmp 39) 40 40 rfl rfl rfl G ?_;refine hK.out _ _ (zk S.o (zk (zq D.o c0) (zk (zq D.o (v8 c1)) (zk (zq D.o (rh c2)) (zk (zq D.o (pX c3)) zQ))))) (λhHeld=>?_);clear hK KK G M N I F;refine tk 25 ?_;refine rc 26 (λKK hK=>?_);go_simp;have z:=t.o.below;refine hK.out _ _ (zk t.o.raw.c2.2 (zk (zq z c0) (zk (zq z (v8 c1)) (zk (zq z (rh c2)) (zk (zq z (pX c3)) zQ))))) (λhHeld=>?_);clear hK KK c0 c1 c2 c3 P Q z;refine z8 ?_;clear hHeld H a T J d u HQ i;go_wp2;go_roundg (m - j)
      case measure=>omega
      case rel=>exact⟨j+1,_,_,za,za,by go_num,t⟩
  ·obtain rfl:j=m:=za;have aj:decide ((j:Int)<(j:Int))=false:=zD;obtain⟨sc0,sf0,P,Q⟩:=oz H.o.res (.slice C n cC);obtain⟨r0,r1⟩:=(ow H.o.res (.slice C n cC) (.slice A5 j c5)).c2;have HF:=zd (H.o.done (nN R j) Y.o);clear H;go_wp2;refine bodyPost_ret (v:=.agg #[.slice C n cC,.slice A5 j c5]) (by simp [results,results18,go_sem,r0,r1]) rfl ?_;exact HF.o
