/- What this claim leans on. -/
import Derived.Test.YtielpgdebeggbaaGreatDoorMVVecs
set_option linter.unusedVariables false
set_option linter.unusedSimpArgs false
namespace Go.Proofs.YtielpgdebeggbaaGreatDoor
open Go Go.RowKit Go.Proofs.Tryz
set_option maxHeartbeats 16000000
set_option maxRecDepth 100000
variable {cs:Array Value}{z:Int}{M:List (List Rat)}{xs:List Rat}{K K' b c f g i j k m n p:Nat}{t:TypeId}{W w w' wr:World}{A B E:ze}
theorem Od {L:Nat}{x y r:Rat}{b b' s:Bool}{A' D:ze}{n' c' d:Nat}{E' U:ze}{k' u f' v:Nat}(g:Nat)(hT:zu w)(hr:zo w r s D m d U u v)(hk:zh w g 52 #[.bool s,.slice D m d,.slice U u v])
  (h:zo w x b A n c E k f) (h':zo w y b' A' n' c' E' k' f') (zx:zn K x) (zy:zn K' y) (zr:zn L r) (hK:K<=67108864) (hK':L+K'<=67108864):
  Calls prog 63 #[.agg #[.bool b,.slice A n c,.slice E k f],.agg #[.bool b',.slice A' n' c',.slice E' k' f'],.pointer (some ⟨g,0,none⟩)] w (yj w (x+r*y)):=by
 have HT:=zk w (λw' hb=>hT.on hb);have HX:=zk w (λw' hb=>h.below hb);have HY:=zk w (λw' hb=>h'.below hb);have HR:=zk w (λw' hb=>hr.below hb);have HK:=zk w (λw' hb=>zg hb hk);have M:=zb zx;have o:=zb zy;have j:=zb zr;clear hT hr hk h h' zx zy zr;obtain⟨t,z,B,C,bz⟩:=xd w 52 52 52 #[.bool b,.slice A n c,.slice E k f] #[.bool b',.slice A' n' c',.slice E' k' f'] #[.bool false,.slice none 0 0,.slice none 0 0];have i:=zb t;have H:=zb z;have I:=zb B;have J:=zb C;clear t z B C bz;go_enter func63,ntmps63;go_wp2_with fail;generalize ((w.alloc (.cells #[.bool b,.slice A n c,.slice E k f] 52)).alloc (.cells #[.bool b',.slice A' n' c',.slice E' k' f'] 52)).alloc (.cells #[.bool false,.slice none 0 0,.slice none 0 0] 52)=W1 at*;obtain⟨p0,p1,p2⟩:=H.o.c3;obtain⟨q0,q1,q2⟩:=I.o.c3;obtain⟨g0,g1,g2⟩:=(HK.o _ i.o).c3;have hB:=i.o;have kr:=J.o;have a:=(qZ W1.heap.size W1).drew;refine rg (zj p0 (zj p1 (zj p2 (zj g0 (zj g1 (zj g2 (zj q0 (zj q1 (zj q2 zO))))))))) (λhHeld=>?_);refine tk 0 ?_;refine tk 1 ?_;refine tk 2 ?_;refine rc 3 (λKK hK=>?_);go_simp;(with_reducible refine(uT (HT.o _ (zc hB a)) (HR.o _ (zc hB a)) (HY.o _ (zc hB a)) j.o o.o za za).mono ?_);rintro e wa ⟨b1,A1,n1,c1,E1,k1,f1,rfl,F,hb⟩;have a:=zc a hb;refine hK.out _ _ (Cs.below hHeld hb) (λhHeld=>?_);clear hK KK hb;refine rc 4 (λKK hK=>?_);go_simp;(with_reducible refine(fB (HT.o _ (zc hB a)) (HX.o _ (zc hB a)) F M.o (j.o.mul o.o) za za).mono ?_);rintro e wb ⟨b2,A2,n2,c2,E2,k2,f2,rfl,G,hb⟩;have a:=zc a hb;refine hK.out _ _ (Cs.below hHeld hb) (λhHeld=>?_);clear hK KK hb;have kr:=zg a kr;obtain⟨N,Q,O,R,P,S⟩:=y6 kr (.bool b2) (.slice A2 n2 c2);obtain⟨r0,r1,r2⟩:=(xf kr (.bool b2) (.slice A2 n2 c2) (.slice E2 k2 f2)).c3;have HG:=zb (va G kr (zc hB a) za);refine rc 5 (λKK hK=>?_);go_simp;refine hK.out _ _ ?_ (λhHeld=>?_)
 ·have hg:g<w.heap.size:=by
   have h1:=(HK.o _ (qZ _ w)).lt;exact h1
  refine Cs.far hHeld (vP _ _ _ _ _) ?_;refine⟨?_,?_,?_,?_,?_,?_,?_,?_,?_,trivial⟩<;>(simp;try omega)
 clear hK KK;refine zV ?_;clear N Q O R P S hHeld F G kr;go_wp2;refine bodyPost_ret (v:=.agg #[.bool b2,.slice A2 n2 c2,.slice E2 k2 f2]) (by simp [results,results63,go_sem,r0,r1,r2]) rfl ?_;exact HG.o
section
variable {K K' L:Nat}{r:Rat}{xs ys:List Rat}{A B:ze}{n n' c d:Nat}{w:World}{s:Bool}{D:ze}{m e9:Nat}{U:ze}{u v:Nat}
theorem UQ (hT:zu w)(ha:zR w A n c xs)(hr:zo w r s D m e9 U u v)(hb:zR w B n d ys)(hx:zD K xs)(zr:zn L r)(hy:zD K' ys)(hn:n<=1073741824:=by omega)(hK:K<=67108864:=by omega)(o:L+K'<=67108864:=by omega):
  Calls prog 22 #[.slice A n c,.agg #[.bool s,.slice D m e9,.slice U u v],.slice B n d] w (tj w n (vV xs r ys)):=by
 have hla:=ha.len;have hlb:=hb.len;obtain⟨a,j,bz⟩:=zA w 52 #[.bool s,.slice D m e9,.slice U u v];have hmf:∀(fn:Fn) (first cap:Array Value) (w:World),(Instr.makeFunc fn first cap).run prog w=.ok (.func fn first cap) w:=λ_ _ _ _=>rfl;have H:=zb (Vb (λx y=>x+r*y) 63 #[.pointer (some ⟨w.heap.size,0,none⟩)] xs ys A B n c d _ (ha.keep a) (hb.keep a) hn mh (λi hi w' h b b' A A' n n' c c' E E' k k' f f' h1 h2=>
  Od (w.heap.size) ((hT.on a).on h) ((hr.below a).below h) (zg h j) h1 h2 (hx.at_ za) (hy.at_ za) zr hK o))
 have hB:=a;clear ha hb hx hy hT hr a j bz;go_enter func22,ntmps22;go_wp2_with fail;refine H.o.mono ?_;rintro e w1 ⟨g,rfl,h1,h2,h3⟩;have HG:=zb (And.intro (qH hB.size h1) (And.intro h2 (zc hB h3)));clear h1 h2 h3 hB;go_wp2
 go_ret2
 exact⟨g,rfl,HG.o⟩
end
theorem yt (h:yf w g n xs)(hn:n<=1073741824:=by omega):zR w (some ⟨g,0,none⟩) n n xs:=wC.row h za
section
variable {K K':Nat}{xs ys:List Rat}{A B:ze}{n n' c d:Nat}{w:World}
theorem TR (hT:zu w)(ha:zR w A n c xs)(hb:zR w B n d ys)(hx:zD K xs)(hy:zD K' ys)(hn:n<=1073741824:=by omega)(hK:K<=67108864:=by omega)(s:K'<=67108864:=by omega)(hS:1+n*(K+K'+1)<=67108864:=by omega):
  Calls prog 99 #[.slice A n c,.slice B n d] w (ub w (uX xs ys) true):=by
 have z:=ha.len;have C:=hb.len;obtain⟨a,j,bz⟩:=zA w 52 #[.bool false,.slice none 0 0,.slice none 0 0];have H:=zb (Vb (λx y=>x*y) 44 #[] xs ys A B n c d _ (ha.keep a) (hb.keep a) hn ja (λi hi w' u b b' A A' n n' c c' E E' k k' f f' h1 h2=>by
  rw [Array.append_empty];exact uT ((hT.on a).on u) h1 h2 (hx.at_ za) (hy.at_ za) hK s))
 have HT:=zk w (λw' hb=>hT.on hb);have hB:=a;have HK:=zb j;have HS:=zb (zD.mul hx hy);have hN:=hn;have t:=zb hS;clear ha hb hx hy hT a j bz z C hS;go_enter func99,ntmps99;go_wp2_with fail;refine H.o.mono ?_;rintro e w1 ⟨g,rfl,-,h2,hb⟩;have hB:=zc hB hb;have hk:=zg hb HK.o;have HV:=zb (yt h2 hN);clear hb HK h2 H;go_wp2_with fail;refine(pT (HT.o _ hB) HV.o HS.o hN t.o).mono ?_;rintro e w2 ⟨b2,A2,n2,c2,E2,k2,f2,rfl,o,hb⟩;have m:=zc hB hb;have h:=zg hb hk;obtain⟨sc0,sf0,sc1,sf1,sc2,sf2⟩:=y6 h (.bool b2) (.slice A2 n2 c2);obtain⟨r0,r1,r2⟩:=(xf h (.bool b2) (.slice A2 n2 c2) (.slice E2 k2 f2)).c3;have HG:=zb (ml (r:=uX xs ys) true o h m (qX _));clear hb hB hk m h o HV HS;go_wp2;refine bodyPost_ret (v:=.tuple #[.agg #[.bool b2,.slice A2 n2 c2,.slice E2 k2 f2],.bool true]) (by simp [results,results99,go_sem,r0,r1,r2]) rfl ?_;exact HG.o
end
def vY (k:IntKind)(cs:Array Value):Prop:=∀v ∈ cs.toList,∀z,v≠.int k z
theorem PQ {k:IntKind}{l:List Nat}(h:zN w w.heap.size 1 A n (zH k l))(hk:zh w g t cs)(a:vY k cs):0<n->∀ad,A=some ad->ad.block≠g:=λhn ad e hg=>by
 have hl:=h.len_;obtain⟨ad',e',_,hc⟩:=h.2 hn;rw [e] at e';injection e' with e';subst e';have h0:=hc 0 (.int k (l.getD 0 0:Nat)) (kB k _ 0 za);have e0:ad.add 0=ad:=by unfold Addr.add;rw [if_pos rfl]
 rw [e0] at h0;obtain⟨bk,off,pr⟩:=ad;simp only at hg;subst hg;unfold zh at hk;cases pr with
 |none=>
   rw [show w.cell? ⟨bk,off,none⟩=cs[off]? from cell_of_row w bk off _ t (0,0) hk,<-QS] at h0;exact a _ (QX h0) _ rfl
 |some q=>simp [World.cell?,hk] at h0
theorem Vc {x:Nat}(h:zq w x A n c)(hk:zh w g t cs)(a:vY .u64 cs)(ho:zZ g w w'):zq w' x A n c:=by
 have d:=PQ h.1 hk a;refine⟨⟨h.1.1,λhn=>?_⟩,h.2⟩;obtain⟨ad,e,hb,hc⟩:=h.1.2 hn;refine⟨ad,e,qJ hb ho.1,λj v hv=>?_⟩;rw [ho.2 (ad.add j) (by rw [y4];exact hb) (by rw [y4];exact d hn ad e)];exact hc j v hv
theorem wD (hk:zh w g t cs)(a:vY .u64 cs)(ho:zZ g w w'){r:Rat}{b:Bool}{A:ze}{n c:Nat}{E:ze}{k f:Nat}(h:zo w r b A n c E k f):zo w' r b A n c E k f:=by
 obtain⟨⟨h1,h2⟩,x,e,h3⟩:=h;exact⟨⟨h1,Vc h2 hk a ho⟩,x,e,Vc h3 hk a ho⟩
theorem Tp (A:ze)(n c:Nat)(z:Int):vY .u64 #[.slice A n c,.int .i64 z]:=by intro v hv z9 e;simp at hv;rcases hv with rfl|rfl<;>cases e
theorem Vo (A:ze)(n c:Nat)(z:Int):∀u ∈(#[.slice A n c,.int .i64 z]:Array Value).toList,∀b,u≠.bool b:=by intro v hv b e;simp at hv;rcases hv with rfl|rfl<;>cases e
theorem Yc (h:zR w A n c xs)(hk:zh w g t cs)(hs:∀u ∈ cs.toList,∀b,u≠.bool b)(a:vY .u64 cs)(ho:zZ g w w'):zR w' A n c xs:=
 TH h hk hs ho (λh5=>wD hk a ho h5)
def vL (w:World)(b:Nat)(t:TypeId):Prop:=∃cs,zh w b t cs
theorem vL.below (h:vL w b t)(hb:Below w.heap.size w w'):vL w' b t:=by
 obtain⟨cs,hk⟩:=h;exact⟨cs,zg hb hk⟩
theorem vL.set_ (h:vL w b t)(g i:Nat)(v:Value):vL (w.setCell ⟨g,i,none⟩ v) b t:=by
 obtain⟨cs,hk⟩:=h;by_cases hg:b=g
 ·subst hg;exact⟨_,hk.set_ i v⟩
 ·exact⟨cs,zh.far (p:=⟨g,i,none⟩) hk hg v⟩
theorem vL.ne {s:TypeId}(h:vL w b t)(hk:zh w g s cs)(hn:t≠s):b≠g:=λe=>by
 obtain⟨ds,hd⟩:=h;subst e;unfold zh at hd hk;rw [hd] at hk;injection hk with hk;injection hk with _ hk;exact hn hk
structure xm (w:World)(A:ze)(n c m:Nat)(M:List (List Rat)):Prop where
 dims:zM M n m
 fits:n<=c
 most:c<=9223372036854775807
 hn:n<=64
 hm:m<=64
 rows:yx (yg zo) w A n M
 ty:∀ad,A=some ad->vL w ad.block 41
theorem xm.keep {w':World}(h:xm w A n c m M)(hb:Below w.heap.size w w'):xm w' A n c m M:={h with rows:=h.rows.below (xe z6) hb,ty:=λad e=>(h.ty ad e).below hb}
theorem xm.nil (w:World):xm w none 0 0 0 []:=⟨qh 0,qX _,zf,zf,zf,yx.nil w none,λad e=>by cases e⟩
theorem xm.offz {q:Nat}(h:xm w A n c m M)(hk:zh w g t #[.slice B p q,.int .i64 z])(x y:Value)(ht:41≠t:=by decide):xm ((w.setCell ⟨g,0,none⟩ x).setCell ⟨g,1,none⟩ y) A n c m M:=
 { h with
  rows:=h.rows.off (λad e=>(h.ty ad e).ne hk ht) (zZ.of_far (um _ _ _ _)) (λh3=>Yc h3 hk (Vo _ _ _ _) (Tp _ _ _ _) (zZ.of_far (um _ _ _ _)))
  ty:=λad e=>((h.ty ad e).set_ _ _ _).set_ _ _ _}
theorem zR.offz {q:Nat}(h:zR w A n c xs)(hk:zh w g t #[.slice B p q,.int .i64 z])(x y:Value):zR ((w.setCell ⟨g,0,none⟩ x).setCell ⟨g,1,none⟩ y) A n c xs:=
 Yc h hk (Vo _ _ _ _) (Tp _ _ _ _) (zZ.of_far (um _ _ _ _))
theorem xm.row {m:Nat}(h:xm w A n c m M)(hb:Below w.heap.size w wr){i:Nat}(hi:i<n):∃(ad:Addr) (B:ze) (d:Nat),A=some ad/\ad.block<w.heap.size/\wr.cell? (ad.add i)=some (.slice B m d)/\zR wr B m d (M.getD i []):=
 h.rows.get (xe z6) hb hi (h.dims.row hi)
theorem xm.place (h:xm w A n c m M)(hb:Below w.heap.size w wr){i j:Nat}(hi:i<n)(hj:j<m):∃(ad:Addr) (B:ze) (d:Nat),A=some ad/\ad.block<w.heap.size/\wr.cell? (ad.add i)=some (.slice B m d)/\
  ∃(ae:Addr) (b1:Bool) (B1:ze) (m1 d1:Nat) (E1:ze) (u1 v1:Nat),B=some ae/\ae.block<wr.heap.size/\wr.cell? (ae.add (j*3))=some (.bool b1)/\wr.cell? ⟨(ae.add (j*3)).block,(ae.add (j*3)).off+1,none⟩=some (.slice B1 m1 d1)/\wr.cell? ⟨(ae.add (j*3)).block,(ae.add (j*3)).off+2,none⟩=some (.slice E1 u1 v1)/\zo wr (zl M i j) b1 B1 m1 d1 E1 u1 v1:=by
 obtain⟨ad,B,d,e,h1,h2,h3⟩:=h.row hb hi;obtain⟨ae,b1,B1,m1,d1,E1,u1,v1,e4,h4,h5,h6,h7,h8⟩:=h3.get (qZ _ _) hj;exact⟨ad,B,d,e,h1,h2,ae,b1,B1,m1,d1,E1,u1,v1,e4,h4,h5,h6,h7,h8⟩
def zW (K:Nat)(M:List (List Rat)):Prop:=∀L ∈ M,zD K L
theorem zW.up (h:zW K M)(e:K<=K'):zW K' M:=λL hL=>(h L hL).up e
theorem zW.row {i:Nat}(h:zW K M)(hi:i<M.length):zD K (M.getD i []):=h _ (QX (ws hi))
theorem zW.at_ {n:Nat}(h:zW K M)(hd:zM M n m)(hi:i<n)(hj:j<m):zn K (zl M i j):=by
 have hl:=hd.rows;have hr:=hd.row hi;exact(h.row (i:=i) za).at_ za
theorem zW.nil (K:Nat):zW K []:=λL hL=>by cases hL
theorem zW.tab {f:Nat->Nat->Rat}(h:∀r c,r<n->c<m->zn K (f r c)):zW K (wg n m f):=λL hL x hx=>by
 unfold wg at hL;obtain⟨r,hr,rfl⟩:=List.mem_map.1 hL;obtain⟨c,hc,rfl⟩:=List.mem_map.1 hx;exact h r c (List.mem_range.1 hr) (List.mem_range.1 hc)
theorem zW.turn (h:zW K M)(hd:zM M n m):zW K (fL n m M):=zW.tab λr c hr hc=>h.at_ hd hc hr
theorem zW.col (h:zW K M)(hd:zM M n m)(hc:c<m):zD K (qb n M c):=λx hx=>by
 unfold qb at hx;obtain⟨r,hr,rfl⟩:=List.mem_map.1 hx;exact h.at_ hd (List.mem_range.1 hr) hc
theorem zW.mul {A B:List (List Rat)}(hA:zW K A)(hB:zW K' B)(dA:zM A n k)(dB:zM B k m):zW (1+k*(K+K'+1)) (aW n k m A B):=zW.tab λr c hr hc=>by
 have hl:=dA.rows;exact Xd (dA.row hr) (qc k B c) (hA.row za) (hB.col dB hc)
def sv (w:World)(n m:Nat)(M:List (List Rat))(e:Ending)(w':World):Prop:=∃(A:ze) (c:Nat),e=.returned (.agg #[.slice A n c,.int .i64 (m:Int)])/\xm w' A n c m M/\(∀ad,A=some ad->w.heap.size<=ad.block)/\Below w.heap.size w w'
def fU (w:World)(n m:Nat)(M:List (List Rat))(e:Ending)(w':World):Prop:=∃(A:ze) (c:Nat),e=.returned (.tuple #[.agg #[.slice A n c,.int .i64 (m:Int)],.bool true])/\xm w' A n c m M/\(∀ad,A=some ad->w.heap.size<=ad.block)/\Below w.heap.size w w'
theorem fe {q:Nat}(h:xm W A n c m M)(hf:∀ad,A=some ad->g<ad.block)(k:zh W g 28 #[.slice B p q,.int .i64 z])(hB:Below w.heap.size w W)(hg:w.heap.size<=g):
  sv w n m M (.returned (.agg #[.slice A n c,.int .i64 (m:Int)])) ((W.setCell ⟨g,0,none⟩ (.slice A n c)).setCell ⟨g,1,none⟩ (.int .i64 (m:Int))):=
 ⟨A,c,rfl,h.offz k _ _,λad e=>by have:=hf ad e;omega,gU _ _ hg hB⟩
theorem je {q:Nat}(h:xm W A n c m M)(hf:∀ad,A=some ad->g<ad.block)(k:zh W g 28 #[.slice B p q,.int .i64 z])(hB:Below w.heap.size w W)(hg:w.heap.size<=g):
  fU w n m M (.returned (.tuple #[.agg #[.slice A n c,.int .i64 (m:Int)],.bool true])) ((W.setCell ⟨g,0,none⟩ (.slice A n c)).setCell ⟨g,1,none⟩ (.int .i64 (m:Int))):=
 ⟨A,c,rfl,h.offz k _ _,λad e=>by have:=hf ad e;omega,gU _ _ hg hB⟩
theorem oO (A:ze)(n c:Nat)(z:Int)(w:World):Calls prog 15 #[.agg #[.slice A n c,.int .i64 z]] w (λe w'=>e=.returned (.int .i64 (n:Int))/\Below w.heap.size w w'):=by
 obtain⟨a,d,bz⟩:=zA w 28 #[.slice A n c,.int .i64 z];obtain⟨g0,g1⟩:=d.c2;have HB:=zb a;clear a d bz;go_enter func15,ntmps15;go_wp2;go_ret;exact⟨rfl,HB.o⟩
theorem uL (A:ze)(n c:Nat)(z:Int)(w:World):Calls prog 31 #[.agg #[.slice A n c,.int .i64 z]] w (λe w'=>e=.returned (.int .i64 z)/\Below w.heap.size w w'):=by
 obtain⟨a,d,bz⟩:=zA w 28 #[.slice A n c,.int .i64 z];obtain⟨g0,g1⟩:=d.c2;have HB:=zb a;clear a d bz;go_enter func31,ntmps31;go_wp2;go_ret;exact⟨rfl,HB.o⟩
def rm (r c:Int):Bool:=decide (0<=r)&&decide (r<=64)&&decide (0<=c)&&decide (c<=64)
theorem Yf (hn:n<=64)(hm:m<=64):rm (n:Int) (m:Int)=true:=by
 unfold rm;rw [decide_eq_true (show(0:Int)<=(n:Int) by omega),decide_eq_true (show(n:Int)<=64 by omega),decide_eq_true (show(0:Int)<=(m:Int) by omega),decide_eq_true (show(m:Int)<=64 by omega)];rfl
theorem mJ (r c:Int)(w:World):Calls prog 80 #[.int .i64 r,.int .i64 c] w (λe w'=>e=.returned (.bool (rm r c))/\w=w'):=by
 by_cases h1:0<=r
 ·have d1:decide (0<=r)=true:=decide_eq_true h1;by_cases h2:r<=64
  ·have d2:decide (r<=64)=true:=decide_eq_true h2;by_cases h3:0<=c
   ·have d3:decide (0<=c)=true:=decide_eq_true h3;obtain⟨b,d4⟩:∃b,decide (c<=64)=b:=⟨_,rfl⟩;have e:rm r c=b:=by unfold rm;rw [d1,d2,d3,d4];rfl
    rw [e];clear h1 h2 h3 e;go_enter func80,ntmps80;go_wp2;go_ret;exact⟨rfl,rfl⟩
   ·have d3:decide (0<=c)=false:=decide_eq_false h3;have e:rm r c=false:=by unfold rm;rw [d1,d2,d3];rfl
    rw [e];clear h1 h2 h3 e;go_enter func80,ntmps80;go_wp2;go_ret;exact⟨rfl,rfl⟩
  ·have d2:decide (r<=64)=false:=decide_eq_false h2;have e:rm r c=false:=by unfold rm;rw [d1,d2];rfl
   rw [e];clear h1 h2 e;go_enter func80,ntmps80;go_wp2;go_ret;exact⟨rfl,rfl⟩
 ·have d1:decide (0<=r)=false:=decide_eq_false h1;have e:rm r c=false:=by unfold rm;rw [d1];rfl
  rw [e];clear h1 e;go_enter func80,ntmps80;go_wp2;go_ret;exact⟨rfl,rfl⟩
def tO (r:Int)(n:Nat):Bool:=decide (0<=r)&&decide (r<(n:Int))
theorem Yy (h:k<n):tO (k:Int) n=true:=by
 unfold tO;rw [decide_eq_true (show(0:Int)<=(k:Int) by omega),decide_eq_true (show(k:Int)<(n:Int) by omega)];rfl
theorem RZ (A:ze)(n c:Nat)(z r:Int)(w:World):Calls prog 50 #[.agg #[.slice A n c,.int .i64 z],.int .i64 r] w (λe w'=>e=.returned (.bool (tO r n))/\Below w.heap.size w w'):=by
 obtain⟨a,d,bz⟩:=zA w 28 #[.slice A n c,.int .i64 z];obtain⟨g0,g1⟩:=d.c2;have HB:=zb a;clear a d bz;by_cases h1:0<=r
 ·have d1:decide (0<=r)=true:=decide_eq_true h1;obtain⟨b,d4⟩:∃b,decide (r<(n:Int))=b:=⟨_,rfl⟩;have e:tO r n=b:=by unfold tO;rw [d1,d4];rfl
  rw [e];clear h1 e;have H:=λW=>zb (oO A n c z W);go_enter func50,ntmps50;go_wp2_with fail;refine(H _).o.mono ?_;rintro e w1 ⟨rfl,hb⟩;have g:=zb (zc HB.o hb);clear hb;go_wp2;go_ret;exact⟨rfl,g.o⟩
 ·have d1:decide (0<=r)=false:=decide_eq_false h1;have e:tO r n=false:=by unfold tO;rw [d1];rfl
  rw [e];clear h1 e;go_enter func50,ntmps50;go_wp2;go_ret;exact⟨rfl,HB.o⟩
theorem RY (A:ze)(n c m:Nat)(r:Int)(w:World):Calls prog 58 #[.agg #[.slice A n c,.int .i64 (m:Int)],.int .i64 r] w (λe w'=>e=.returned (.bool (tO r m))/\Below w.heap.size w w'):=by
 obtain⟨a,d,bz⟩:=zA w 28 #[.slice A n c,.int .i64 (m:Int)];obtain⟨g0,g1⟩:=d.c2;have HB:=zb a;clear a d bz;by_cases h1:0<=r
 ·have d1:decide (0<=r)=true:=decide_eq_true h1;obtain⟨b,d4⟩:∃b,decide (r<(m:Int))=b:=⟨_,rfl⟩;have e:tO r m=b:=by unfold tO;rw [d1,d4];rfl
  rw [e];clear h1 e;go_enter func58,ntmps58;go_wp2;go_ret;exact⟨rfl,HB.o⟩
 ·have d1:decide (0<=r)=false:=decide_eq_false h1;have e:tO r m=false:=by unfold tO;rw [d1];rfl
  rw [e];clear h1 e;go_enter func58,ntmps58;go_wp2;go_ret;exact⟨rfl,HB.o⟩
theorem dP {r:Rat}{b:Bool}(h:zo w' r b A n c E k f)(hb:Below w.heap.size w w'):yj w r (.returned (.agg #[.bool b,.slice A n c,.slice E k f])) w':=⟨_,_,_,_,_,_,_,rfl,h,hb⟩
section
variable {A:ze}{n c m:Nat}{M:List (List Rat)}{w:World}
theorem mi:∀(args:Array Value) (w':World),Sem.run prog (callFunc 84 args) w'=.ok (.enter 84 args) w':=Go.Proofs.enters_of func84 yd rfl
theorem kT (hT:zu w)(i j:Nat):Calls prog 84 #[.int .i64 (i:Int),.int .i64 (j:Int)] w (yj w (if i=j then 1 else 0)):=by
 obtain⟨a,d,bz⟩:=zA w 52 #[.bool false,.slice none 0 0,.slice none 0 0];by_cases hij:i=j
 ·have e0:((i:Int)==(j:Int))=true:=by rw [beq_iff_eq];omega
  rw [if_pos hij];have HT:=zb (hT.on a);have HB:=zb a;have HK:=zb d;clear hij a d bz hT;go_enter func84,ntmps84;go_wp2_with fail;(with_reducible refine(tX 1 _ HT.o zf zf).mono ?_);rintro e w3 ⟨b3,A3,n3,c3,E3,k3,f3,rfl,h,hb⟩;have g:=zg hb HK.o;obtain⟨sc0,sf0,sc1,sf1,sc2,sf2⟩:=y6 g (.bool b3) (.slice A3 n3 c3);obtain⟨r0,r1,r2⟩:=(xf g (.bool b3) (.slice A3 n3 c3) (.slice E3 k3 f3)).c3;have HG:zd (yj w 1 _ _):=va (r:=1) h g (zc HB.o hb) (qX _);clear hb g h HB HK HT;go_wp2;refine bodyPost_ret (v:=.agg #[.bool b3,.slice A3 n3 c3,.slice E3 k3 f3]) (by simp [results,results84,go_sem,r0,r1,r2]) rfl ?_;exact HG.o
 ·have e0:((i:Int)==(j:Int))=false:=by rw [beq_eq_false_iff_ne];omega
  rw [if_neg hij];obtain⟨r0,r1,r2⟩:=d.c3;have HG:=zb (dP (iI _) a);clear a d bz hij;go_enter func84,ntmps84;go_wp2;refine bodyPost_ret (v:=.agg #[.bool false,.slice none 0 0,.slice none 0 0]) (by simp [results,results84,go_sem,r0,r1,r2]) rfl ?_;exact HG.o
theorem SR:∀(args:Array Value) (w':World),Sem.run prog (callFunc 118 args) w'=.ok (.enter 118 args) w':=Go.Proofs.enters_of func118 yd rfl
theorem R9 {gv:Nat}{V:ze}{cv:Nat}(h:xm w A n c m M)(hk:zh w g 28 #[.slice A n c,.int .i64 (m:Int)])(s:zh w gv 41 #[.slice V n cv])(hv:zR w V n cv xs)(hi:i<n)(hj:j<m+1):
  Calls prog 118 #[.int .i64 (i:Int),.int .i64 (j:Int),.pointer (some ⟨g,0,none⟩),.pointer (some ⟨gv,0,none⟩)] w (yj w (if j=m then xs.getD i 0 else zl M i j)):=by
 obtain⟨a,t,bz⟩:=zA w 52 #[.bool false,.slice none 0 0,.slice none 0 0];by_cases h1:j=m
 ·have e1:((j:Int)==(m:Int))=true:=by rw [beq_iff_eq];omega
  rw [if_pos h1];obtain⟨g0,g1⟩:=(zg a hk).c2;have y0:=(zg a s).c1;clear h1;obtain⟨ae,b1,B1,m1,d1,E1,u1,v1,rfl,-,h0,h2,h3,hq⟩:=hv.get (qZ _ w) hi;have h0:=zw a h0;have h1:=zw a h2;have h2:=zw a h3;have i1:(0:Int)<=(i:Int):=za;have i2:(i:Int)<(n:Int):=za;clear s;obtain⟨k,o,-⟩:=zA w 52 #[.bool b1,.slice B1 m1 d1,.slice E1 u1 v1];obtain⟨r0,r1,r2⟩:=o.c3;have HG:=zb (dP (hq.below k) k);clear hq a t bz k o h hk hv;go_enter func118,ntmps118;go_wp2;refine bodyPost_ret (v:=.agg #[.bool b1,.slice B1 m1 d1,.slice E1 u1 v1]) (by simp [results,results118,go_sem,r0,r1,r2]) rfl ?_;exact HG.o
 ·have e1:((j:Int)==(m:Int))=false:=by rw [beq_eq_false_iff_ne];omega
  rw [if_neg h1];have hj:j<m:=za;clear h1 s;obtain⟨ad,B,d,rfl,-,hc,ae,b1,B1,m1,d1,E1,u1,v1,rfl,-,h0,h1,h2,hq⟩:=h.place (qZ _ w) hi hj;obtain⟨g0,g1⟩:=(zg a hk).c2;obtain⟨hc,h0,h1,h2⟩:=tg a hc h0 h1 h2;have i1:(0:Int)<=(i:Int):=za;have i2:(i:Int)<(n:Int):=za;have i3:(0:Int)<=(j:Int):=za;have i4:(j:Int)<(m:Int):=za;obtain⟨k,o,-⟩:=zA w 52 #[.bool b1,.slice B1 m1 d1,.slice E1 u1 v1];obtain⟨r0,r1,r2⟩:=o.c3;have HG:=zb (dP (hq.below k) k);clear hq a t bz k o h hk hv;go_enter func118,ntmps118;go_wp2;refine bodyPost_ret (v:=.agg #[.bool b1,.slice B1 m1 d1,.slice E1 u1 v1]) (by simp [results,results118,go_sem,r0,r1,r2]) rfl ?_;exact HG.o
theorem jc:∀(args:Array Value) (w':World),Sem.run prog (callFunc 83 args) w'=.ok (.enter 83 args) w':=Go.Proofs.enters_of func83 yd rfl
theorem gW {gs:Nat}{Q:ze}{q:Nat}(h:yx (yg zo) w Q n M)(hd:zM M n m)(hk:zh w gs 26 #[.slice Q n q])(hi:i<n)(hj:j<m):Calls prog 83 #[.int .i64 (i:Int),.int .i64 (j:Int),.pointer (some ⟨gs,0,none⟩)] w (yj w (zl M i j)):=by
 obtain⟨a,o,bz⟩:=zA w 52 #[.bool false,.slice none 0 0,.slice none 0 0];obtain⟨ad,B,d,rfl,-,hc,hv⟩:=h.get (xe z6) (qZ _ w) hi (hd.row hi);obtain⟨ae,b1,B1,m1,d1,E1,u1,v1,rfl,-,h0,h1,h2,hq⟩:=zR.get hv (qZ _ w) hj;obtain⟨hc,h0,h1,h2⟩:=tg a hc h0 h1 h2;have g0:=(zg a hk).c1;have i1:(0:Int)<=(i:Int):=za;have i2:(i:Int)<(n:Int):=za;have i3:(0:Int)<=(j:Int):=za;have i4:(j:Int)<(m:Int):=za;obtain⟨g,k,-⟩:=zA w 52 #[.bool b1,.slice B1 m1 d1,.slice E1 u1 v1];obtain⟨r0,r1,r2⟩:=k.c3;have HG:=zb (dP (hq.below g) g);clear hq a o bz g k h hk hv hd;go_enter func83,ntmps83;go_wp2;refine bodyPost_ret (v:=.agg #[.bool b1,.slice B1 m1 d1,.slice E1 u1 v1]) (by simp [results,results83,go_sem,r0,r1,r2]) rfl ?_;exact HG.o
theorem jb:∀(args:Array Value) (w':World),Sem.run prog (callFunc 79 args) w'=.ok (.enter 79 args) w':=Go.Proofs.enters_of func79 yd rfl
theorem Pk {gc k:Nat}{V:ze}{cv:Nat}(hk:zh w gc 3 #[.int .i64 z]):Calls prog 79 #[.slice V k cv,.pointer (some ⟨gc,0,none⟩)] w (λe w'=>e=.returned (.bool (!decide ((k:Int)=z)))/\Below w.heap.size w w'):=by
 have g0:=hk.c1;obtain⟨b,hb⟩:∃b,(!decide ((k:Int)=z))=b:=⟨_,rfl⟩;have hb2:((k:Int) !=z)=b:=by rw [<-hb];by_cases q:(k:Int)=z<;>simp [q]
 rw [hb];clear hk hb;go_enter func79,ntmps79;go_wp2;go_ret;exact⟨rfl,qZ _ _⟩
end
