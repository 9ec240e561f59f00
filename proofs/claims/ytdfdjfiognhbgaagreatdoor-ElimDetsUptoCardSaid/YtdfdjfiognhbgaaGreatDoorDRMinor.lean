/- What this claim leans on. -/
import Derived.Test.YtdfdjfiognhbgaaGreatDoorDRTurn
set_option linter.unusedVariables false
set_option linter.unusedSimpArgs false
namespace Go.Proofs.YtdfdjfiognhbgaaGreatDoor
open Go Go.RowKit Go.Proofs.Tryz
set_option maxHeartbeats 16000000
set_option maxRecDepth 100000
variable {b:Bool}{M:List (List Rat)}{c f j k m n:Nat}{w:World}{A E:ze}
def kw (n k:Nat)(M:List (List Rat))(j:Nat):List (List Rat):=uU k k (vh (uU k n (vh M 0)) j)
theorem Rn {r:Nat}(h:zM M n m)(hr:r<n)(hk:k+1=n):zM (vh M r) k m:=by
 refine⟨by unfold vh;rw [List.length_eraseIdx,h.rows,if_pos hr];omega,λL hL=>h.cols L ?_⟩;unfold vh at hL;exact List.mem_of_mem_eraseIdx hL
theorem Un {r i:Nat}(h:zM M n m):zv (vh M r) i j=zv M (yw r i) j:=by
 unfold zv vh yw;rw [qQ (l:=List.eraseIdx _ _),List.getElem?_eraseIdx]
 split
 ·rw [<-qQ]
 ·rw [<-qQ]
theorem Vn (h:zM M n n)(hk:k+1=n){j:Nat}(hj:j<n){a b:Nat}(ha:a<k)(hb:b<k):zv (kw n k M j) a b=yv (zv M) j a b:=by
 unfold kw yv;rw [Zw ha hb,Un (aH _ _ _),Zw (by have:=jV (c:=j) hb;omega) ha,Un h];rfl
theorem PV {K:Nat}(h:zM M n n)(hk:k+1=n){j:Nat}(hj:j<n)(z:zV K M):zV K (kw n k M j):=zV.tab λr c hr hc=>by
 have:=Vn h hk hj hr hc;unfold kw at this;rw [Zw hr hc] at this;rw [this];unfold yv;exact z.at_ h zb (by have:=jV (c:=j) hc;omega)
theorem ph {r:Nat}{z:Int}(h:yz w A n c m M)(hr:r<n)(hk:k+1=n)(hz:z=(r:Int)):
  Calls prog 93 #[.slice A n c,.int .i64 z] w (λe w'=>∃(A':ze) (c':Nat),e=.returned (.slice A' k c')/\yz w' A' k c' m (vh M r)/\Below w.heap.size w w'):=by
 subst hz;have e1:=qm h.dims.rows hr;have e2:(vh M r).length=k:=(Rn h.dims hr hk).rows;refine(TK h).mono λe w' h1=>?_;rw [e1,e2] at h1;exact h1
theorem Wy {r:Rat}(h:y4 w r b A n c E k f):n=0↔r=0:=by
 have h1:=h.1.2.1.1;have hl:(zq .i64 (dg 65536 r.num.natAbs)).length=n*1:=h1;have h2:(dg 65536 r.num.natAbs).length=n:=by rw [wt] at hl;omega
 constructor
 ·intro e;have:dg 65536 r.num.natAbs=[]:=QY zb;have h4:r.num.natAbs=0:=kK (b:=65536) zg this;exact Rat.num_eq_zero.1 zb
 ·intro e;rw [e] at h2;rw [<-h2];rfl
theorem Qj (h:yz w A n c n M)(hk:k+1=n)(hj:j<n):
  Calls prog 39 #[.agg #[.slice A n c,.int .i64 (n:Int)],.int .i64 0,.int .i64 (j:Int)] w (mY w k k (kw n k M j)):=by
 have HM:=zj w (λw' hb=>h.keep hb);have a5:zd (∀(w':World),yz w' A n c n M->Calls prog 93 #[.slice A n c,.int .i64 0] w' (λe w2=>∃(A':ze) (c':Nat),e=.returned (.slice A' k c')/\yz w2 A' k c' n (vh M 0)/\Below w'.heap.size w' w2)):=λw' h'=>ph (r:=0) h' zb hk rfl;have aj:zd (∀(w':World) (B:ze) (d:Nat),yz w' B n d k (uU k n (vh M 0))->Calls prog 93 #[.slice B n d,.int .i64 (j:Int)] w' (λe w2=>∃(A':ze) (c':Nat),e=.returned (.slice A' k c')/\yz w2 A' k c' k (vh (uU k n (vh M 0)) j)/\Below w'.heap.size w' w2)):=λw' B d h'=>ph (r:=j) h' hj hk rfl;have Z:zd (kw n k M j=uU k k (vh (uU k n (vh M 0)) j)):=rfl;obtain⟨O0,bf⟩:∃O,vh M 0=O:=⟨_,rfl⟩;rw [bf] at a5 aj Z;obtain⟨O1,ar⟩:∃O,uU k n O0=O:=⟨_,rfl⟩;have b3:=za ar;rw [ar] at aj Z;obtain⟨O2,bg⟩:∃O,vh O1 j=O:=⟨_,rfl⟩;rw [bg] at aj Z;rw [Z.o];have HB:=za (qZ w.heap.size w);clear h hk bf ar bg Z;go_enter func39,ntmps39;obtain⟨bc,bd,be,-⟩:=zX w 33 33 #[.slice A n c,.int .i64 (n:Int)] #[.slice none 0 0,.int .i64 0];have HB:=za (zc HB.o bc);have b1:=za (bd);have N:=za (be);clear bc bd be;go_upto_region 1 with fail;generalize (w.alloc (.cells #[.slice A n c,.int .i64 (n:Int)] 33)).alloc (.cells #[.slice none 0 0,.int .i64 0] 33)=W3 at*;obtain⟨an,ao⟩:=b1.o.c2;have GG:=zj W3 (λw' h=>(zl (zt h an) (zl (zt h ao) zJ)));refine pi (λhHeld=>?_);clear an ao;refine tl 0 GG.o ?_;refine tl 1 GG.o ?_;refine tl 2 GG.o ?_;refine tl 4 GG.o ?_;refine tl 5 GG.o ?_;refine fY (L:=#[true,true,true,true,true,true,true,true,true,true])
  (J:=fun a0 l a w' => ∃ (m o s t E : Bool) (A4 : ze) (c4 : Nat) (A5 : ze) (c5 D : Nat),l = #[true,true,true,m,true,true,o,s,t,E] ∧ vv [12,15,16,7] a0 a ∧ zd (Below W3.heap.size W3 w') ∧
    zd (Gd m (a.tmps.getD 12 undef=.slice A4 k c4/\yz w' A4 k c4 n (O0)))/\
    zd (Gd s (a.tmps.getD 16 undef=.agg #[.slice A5 n c5,.int .i64 (k:Int)]/\yz w' A5 n c5 k (uU k n O0)))/\
    zd (Gd o (a.tmps.getD 15 undef=.agg #[.slice A4 k c4,.int .i64 (n:Int)]))/\
    zd (Gd t (a.tmps.getD 7 undef=.pointer (some ⟨D,0,none⟩)/\W3.heap.size<=D/\zh w' D 33 (bif E then #[.slice A5 n c5,.int .i64 (k:Int)] else #[.slice none 0 0,.int .i64 0])))/\
    zd (Gd o (m=true))/\
    zd (Gd s (m=true))/\
    zd (Gd s (o=true))/\
    zd (Gd E (s=true))/\
    zd (Gd E (t=true)))
  (by rfl) ?_ ?_ ?_
 ·exact⟨false,false,false,false,false,none,0,none,0,0,zP,vv.refl _ _,hHeld,Gd.no,Gd.no,Gd.no,Gd.no,Gd.no,Gd.no,Gd.no,Gd.no,Gd.no⟩
 ·intro b6 K Q0 hO aa hA;have a6:K.tmps.getD 10 undef=.slice A n c:=(hA 10 undef).trans zP;have a7:K.tmps.getD 11 undef=.int .i64 0:=(hA 11 undef).trans zP;have a8:K.tmps.getD 14 undef=.int .i64 (n:Int):=(hA 14 undef).trans zP;have hsz:K.tmps.size=26:=aa.trans zP;clear aa hA;refine⟨?_,?_⟩
  ·rintro l a w' ⟨m,o,s,t,E,A4,c4,A5,c5,D,rfl,-⟩ hr;obtain rfl:m=true:=wJ 3 hr hO;obtain rfl:o=true:=wJ 6 hr hO;obtain rfl:s=true:=wJ 7 hr hO;obtain rfl:t=true:=wJ 8 hr hO;obtain rfl:E=true:=wJ 9 hr hO;rfl
  ·rintro l a w' i ⟨m,o,s,t,E,A4,c4,A5,c5,D,rfl,g,u,z,C,F,R,y,P,Q,I,X⟩ ca hi;have b9:i<10:=by have:=iI hi;rw [hO] at this;exact this
   rcases (show i=0\/i=1\/i=2\/i=3\/i=4\/i=5\/i=6\/i=7\/i=8\/i=9 by omega) with rfl|rfl|rfl|rfl|rfl|rfl|rfl|rfl|rfl|rfl
   ·cases (yy hi:true=false)
   ·cases (yy hi:true=false)
   ·cases (yy hi:true=false)
   ·obtain rfl:m=false:=yy hi;obtain rfl:o=false:=Gd.off y.o;obtain rfl:s=false:=Gd.off P.o;obtain rfl:E=false:=Gd.off I.o;have rd10:=g.get 10 zg a6;have rd11:=g.get 11 zg a7;have b0:=za (zc HB.o u.o);refine wL hO (λK' hK=>?_);go_simp;(with_reducible refine(a5.o _ (HM.o _ b0.o)).mono ?_);rintro e w2 ⟨cb,ce,rfl,bh,hb⟩;exact hK.out _ _ ⟨zc u.o hb,true,false,false,t,false,cb,ce,A5,c5,D,by rfl,g.put zg _,zc u.o hb,Gd.yes ⟨vi (g.lt vK) _,bh⟩,Gd.no,Gd.no,kq R.o λh=>⟨h.1,zf hb h.2⟩,Gd.no,Gd.no,Gd.no,Gd.no,Gd.no⟩
   ·cases (yy hi:true=false)
   ·cases (yy hi:true=false)
   ·obtain rfl:o=false:=yy hi;obtain rfl:m=true:=xi 3 0 hi hO;obtain rfl:s=false:=Gd.off Q.o;obtain rfl:E=false:=Gd.off I.o;have bo:=z.o.get.1;have bp:=g.get 14 zg a8;have bk:=bo;rw [QX] at bk;have bl:=bp;rw [QX] at bl;refine wL hO (λK' hK=>?_);go_simp;exact hK.out _ _ ⟨u.o,true,true,false,t,false,A4,c4,A5,c5,D,by rfl,g.put zg _,u.o,kq z.o λh=>(h),Gd.no,Gd.yes (vi (g.lt vK) _),kq R.o id,λ_=>rfl,Gd.no,Gd.no,Gd.no,Gd.no⟩
   ·obtain rfl:s=false:=yy hi;obtain rfl:m=true:=xi 3 1 hi hO;obtain rfl:o=true:=xi 6 0 hi hO;obtain rfl:E=false:=Gd.off I.o;have rd15:=F.o.get;have H:=za (z.o.get.2);refine wL hO (λK' hK=>?_);go_simp;(with_reducible refine(Yw H.o).mono ?_);rintro e w2 ⟨cc,cf,rfl,bi,hb⟩;exact hK.out _ _ ⟨zc u.o hb,true,true,true,t,false,A4,c4,cc,cf,D,by rfl,g.put zg _,zc u.o hb,kq z.o λh=>yz.keep (h) hb,Gd.yes ⟨vi (g.lt vK) _,bi⟩,rJ F.o,kq R.o λh=>⟨h.1,zf hb h.2⟩,λ_=>rfl,λ_=>rfl,λ_=>rfl,Gd.no,Gd.no⟩
   ·obtain rfl:t=false:=yy hi;obtain rfl:E=false:=Gd.off X.o;refine wL hO (λK' hK=>?_);go_simp;have hb:=km w' (.cells #[.slice none 0 0,.int .i64 0] 33);exact hK.out _ _ ⟨zc u.o hb,m,o,s,true,false,A4,c4,A5,c5,w'.heap.size,by rfl,g.put zg _,zc u.o hb,kq z.o λh=>yz.keep (h) hb,kq C.o λh=>yz.keep (h) hb,rJ F.o,Gd.yes ⟨vi (g.lt vK) _,u.o.size,zh.new w' _ _⟩,y,P,Q,Gd.no,Gd.no⟩
   ·obtain rfl:E=false:=yy hi;obtain rfl:m=true:=xi 3 6 hi hO;obtain rfl:o=true:=xi 6 9 hi hO;obtain rfl:s=true:=xi 7 1 hi hO;obtain rfl:t=true:=xi 8 0 hi hO;have rd7:=R.o.get.1;have rd16:=C.o.get.1;obtain⟨_,hg,hk⟩:=R.o.get;have hk:zh w' D 33 #[.slice none 0 0,.int .i64 0]:=hk;obtain⟨bt,bw,bu,bx⟩:=wS hk (.slice A5 n c5);have av:=wR hk (.slice A5 n c5) (.int .i64 (k:Int));have ab:=tA (.slice A5 n c5) (.int .i64 (k:Int)) hg u.o;refine wL hO (λK' hK=>?_);go_simp;exact hK.out _ _ ⟨ab,true,true,true,true,true,A4,c4,A5,c5,D,by rfl,g,ab,z.o.mono λh=>⟨h.1,yz.offz (h.2) hk _ _⟩,C.o.mono λh=>⟨h.1,yz.offz (h.2) hk _ _⟩,F.o.mono λh=>h,R.o.mono λh=>⟨h.1,h.2.1,av⟩,λ_=>rfl,λ_=>rfl,λ_=>rfl,λ_=>rfl,λ_=>rfl⟩
 rintro a ai ⟨m,o,s,t,E,A4,c4,A5,c5,D,hl,g,u,z,C,F,R,y,P,Q,I,X⟩;have ay:m=true:=wK 3 hl;subst ay;have az:o=true:=wK 6 hl;subst az;have a1:s=true:=wK 7 hl;subst a1;have a2:t=true:=wK 8 hl;subst a2;have ch:E=true:=wK 9 hl;subst ch;obtain⟨af,H⟩:=z.o.get;obtain⟨ah,ac⟩:=C.o.get;have ag:=F.o.get;obtain⟨bs,b8,al⟩:=R.o.get;obtain rfl:=g.eq [(12,.slice A4 k c4),(15,.agg #[.slice A4 k c4,.int .i64 (n:Int)]),(16,.agg #[.slice A5 n c5,.int .i64 (k:Int)]),(7,.pointer (some ⟨D,0,none⟩))] rfl (by
  intro p hp;simp only [List.mem_cons,jY,or_false] at hp;rcases hp with rfl|rfl|rfl|rfl
  ·exact af
  ·exact ag
  ·exact ah
  ·exact bs)
 have S:=u.o;clear hl u g z C F R y P Q I X af ag ah bs;have al:zh ai D 33 #[.slice A5 n c5,.int .i64 (k:Int)]:=al;rw [show uJ #[true,true,true,true,true,true,true,true,true,true]=0 from rfl];simp only [vW,List.foldl,Act.put,qK,qD,qH];refine wpAnyH_done zP ?_ _;refine NoPanic.normal ?_;have HB:=za (zc HB.o S);have N:=za (zf S N.o);have Y:=za (ac);obtain⟨adx8,au⟩:∃x,x=D:=⟨_,rfl⟩;subst au;have b2:=za (al);clear S GG al b8 H ac;have Y:=Y.o;rw [b3.o] at Y;have Y:=za Y;go_upto_region 2 with fail;obtain⟨ad,ae⟩:=b2.o.c2;have GG:=zj ai (λw' h=>(zl (zt h ad) (zl (zt h ae) zJ)));refine pi (λhHeld=>?_);clear ad ae;refine tl 0 GG.o ?_;refine tl 1 GG.o ?_;refine tl 2 GG.o ?_;refine tl 4 GG.o ?_;refine tl 5 GG.o ?_;refine fY (L:=#[true,true,true,true,true,true,true,true,true])
  (J:=fun a0 l a w' => ∃ (m o s t : Bool) (A9 : ze) (c9 G : Nat),l = #[true,true,true,m,true,true,o,s,t] ∧ vv [20,23,8] a0 a ∧ zd (Below ai.heap.size ai w') ∧
    zd (Gd m (a.tmps.getD 20 undef=.slice A9 k c9/\yz w' A9 k c9 k (O2)))/\
    zd (Gd o (a.tmps.getD 23 undef=.agg #[.slice A9 k c9,.int .i64 (k:Int)]))/\
    zd (Gd s (a.tmps.getD 8 undef=.pointer (some ⟨G,0,none⟩)/\ai.heap.size<=G/\zh w' G 33 (bif t then #[.slice A9 k c9,.int .i64 (k:Int)] else #[.slice none 0 0,.int .i64 0])))/\
    zd (Gd o (m=true))/\
    zd (Gd t (m=true))/\
    zd (Gd t (o=true))/\
    zd (Gd t (s=true)))
  (by rfl) ?_ ?_ ?_
 ·exact⟨false,false,false,false,none,0,0,zP,vv.refl _ _,hHeld,Gd.no,Gd.no,Gd.no,Gd.no,Gd.no,Gd.no,Gd.no⟩
 ·intro b6 K Q0 hO aa hA;have a9:K.tmps.getD 18 undef=.slice A5 n c5:=(hA 18 undef).trans zP;have ba:K.tmps.getD 19 undef=.int .i64 (j:Int):=(hA 19 undef).trans zP;have bb:K.tmps.getD 22 undef=.int .i64 (k:Int):=(hA 22 undef).trans zP;have hsz:K.tmps.size=26:=aa.trans zP;clear aa hA;refine⟨?_,?_⟩
  ·rintro l a w' ⟨m,o,s,t,A9,c9,G,rfl,-⟩ hr;obtain rfl:m=true:=wJ 3 hr hO;obtain rfl:o=true:=wJ 6 hr hO;obtain rfl:s=true:=wJ 7 hr hO;obtain rfl:t=true:=wJ 8 hr hO;rfl
  ·rintro l a w' i ⟨m,o,s,t,A9,c9,G,rfl,g,u,z,F,C,y,T,U,V⟩ ca hi;have b9:i<9:=by have:=iI hi;rw [hO] at this;exact this
   rcases (show i=0\/i=1\/i=2\/i=3\/i=4\/i=5\/i=6\/i=7\/i=8 by omega) with rfl|rfl|rfl|rfl|rfl|rfl|rfl|rfl|rfl
   ·cases (yy hi:true=false)
   ·cases (yy hi:true=false)
   ·cases (yy hi:true=false)
   ·obtain rfl:m=false:=yy hi;obtain rfl:o=false:=Gd.off y.o;obtain rfl:t=false:=Gd.off T.o;have rd18:=g.get 18 zg a9;have rd19:=g.get 19 zg ba;have a4:=za (Y.o.keep u.o);refine wL hO (λK' hK=>?_);go_simp;(with_reducible refine(aj.out _ _ _ a4.o).mono ?_);rintro e w2 ⟨cd,cg,rfl,bj,hb⟩;exact hK.out _ _ ⟨zc u.o hb,true,false,s,false,cd,cg,G,by rfl,g.put zg _,zc u.o hb,Gd.yes ⟨vi (g.lt vK) _,bj⟩,Gd.no,kq C.o λh=>⟨h.1,zf hb h.2⟩,Gd.no,Gd.no,Gd.no,Gd.no⟩
   ·cases (yy hi:true=false)
   ·cases (yy hi:true=false)
   ·obtain rfl:o=false:=yy hi;obtain rfl:m=true:=xi 3 0 hi hO;obtain rfl:t=false:=Gd.off U.o;have bq:=z.o.get.1;have br:=g.get 22 zg bb;have bm:=bq;rw [QX] at bm;have bn:=br;rw [QX] at bn;refine wL hO (λK' hK=>?_);go_simp;exact hK.out _ _ ⟨u.o,true,true,s,false,A9,c9,G,by rfl,g.put zg _,u.o,kq z.o λh=>(h),Gd.yes (vi (g.lt vK) _),kq C.o id,λ_=>rfl,Gd.no,Gd.no,Gd.no⟩
   ·obtain rfl:s=false:=yy hi;obtain rfl:t=false:=Gd.off V.o;refine wL hO (λK' hK=>?_);go_simp;have hb:=km w' (.cells #[.slice none 0 0,.int .i64 0] 33);exact hK.out _ _ ⟨zc u.o hb,m,o,true,false,A9,c9,w'.heap.size,by rfl,g.put zg _,zc u.o hb,kq z.o λh=>yz.keep (h) hb,rJ F.o,Gd.yes ⟨vi (g.lt vK) _,u.o.size,zh.new w' _ _⟩,y,Gd.no,Gd.no,Gd.no⟩
   ·obtain rfl:t=false:=yy hi;obtain rfl:m=true:=xi 3 2 hi hO;obtain rfl:o=true:=xi 6 1 hi hO;obtain rfl:s=true:=xi 7 0 hi hO;have rd8:=C.o.get.1;have rd23:=F.o.get;obtain⟨_,hg,hk⟩:=C.o.get;have hk:zh w' G 33 #[.slice none 0 0,.int .i64 0]:=hk;obtain⟨bt,bw,bu,bx⟩:=wS hk (.slice A9 k c9);have av:=wR hk (.slice A9 k c9) (.int .i64 (k:Int));have ab:=tA (.slice A9 k c9) (.int .i64 (k:Int)) hg u.o;refine wL hO (λK' hK=>?_);go_simp;exact hK.out _ _ ⟨ab,true,true,true,true,A9,c9,G,by rfl,g,ab,z.o.mono λh=>⟨h.1,yz.offz (h.2) hk _ _⟩,F.o.mono λh=>h,C.o.mono λh=>⟨h.1,h.2.1,av⟩,λ_=>rfl,λ_=>rfl,λ_=>rfl,λ_=>rfl⟩
 rintro a bz ⟨m,o,s,t,A9,c9,G,hl,g,u,z,F,C,y,T,U,V⟩;have ay:m=true:=wK 3 hl;subst ay;have az:o=true:=wK 6 hl;subst az;have a1:s=true:=wK 7 hl;subst a1;have a2:t=true:=wK 8 hl;subst a2;obtain⟨af,H⟩:=z.o.get;have ag:=F.o.get;obtain⟨ah,b7,ak⟩:=C.o.get;obtain rfl:=g.eq [(20,.slice A9 k c9),(23,.agg #[.slice A9 k c9,.int .i64 (k:Int)]),(8,.pointer (some ⟨G,0,none⟩))] rfl (by
  intro p hp;simp only [List.mem_cons,jY,or_false] at hp;rcases hp with rfl|rfl|rfl
  ·exact af
  ·exact ag
  ·exact ah)
 have S:=u.o;clear hl u g z F C y T U V af ag ah;have ak:zh bz G 33 #[.slice A9 k c9,.int .i64 (k:Int)]:=ak;rw [show uJ #[true,true,true,true,true,true,true,true,true]=0 from rfl];simp only [vW,List.foldl,Act.put,qK,qD,qH];refine wpAnyH_done zP ?_ _;refine NoPanic.normal ?_;have HB:=za (zc HB.o S);have N:=za (zf S N.o);have b4:=za (H);obtain⟨adx12,au⟩:∃x,x=G:=⟨_,rfl⟩;subst au;have a3:=za (ak);clear S GG ak b7 H;obtain⟨aw,ax⟩:=a3.o.c2;go_wp2_with fail;clear aw ax;(with_reducible refine(Yw b4.o).mono ?_);rintro e X15 ⟨ap,aq,rfl,am,hb⟩;have HB:=za (zc HB.o hb);have N:=za (zf hb N.o);have b5:=za (am);clear hb am;obtain⟨bt,bw,bu,bx⟩:=wS N.o (.slice ap k aq);obtain⟨r0,r1⟩:=(wR N.o (.slice ap k aq) (.int .i64 (k:Int))).c2;have HG:=za (kW b5.o N.o HB.o (show w.heap.size<=w.heap.size+1 by omega));go_wp2;refine bodyPost_ret (v:=.agg #[.slice ap k aq,.int .i64 (k:Int)]) (by simp [results,results39,go_sem,r0,r1]) rfl ?_;exact HG.o
theorem Wm {r:Rat}{t:Bool}(ht:decide (r=0)=t)(h:y4 w r b A n c E k f):
  Calls prog 14 #[.agg #[.bool b,.slice A n c,.slice E k f]] w (λe w'=>e=.returned (.bool t)/\Below w.heap.size w w'):=by
 obtain⟨a,d,-⟩:=zw w 49 #[.bool b,.slice A n c,.slice E k f];obtain⟨p0,p1,p2⟩:=d.c3;have HB:=za a;have hz:=Wy h;have he:((n:Int)==0)=t:=by
  rw [<-ht];by_cases e:r=0
  ·rw [decide_eq_true e,hz.2 e];rfl
  ·rw [decide_eq_false e,beq_eq_false_iff_ne];intro e2;exact e (hz.1 zb)
 have HE:=za he;clear h a d hz he ht;go_enter func14,ntmps14;go_wp2;go_ret;exact⟨by rw [<-HE.o];rfl,HB.o⟩
