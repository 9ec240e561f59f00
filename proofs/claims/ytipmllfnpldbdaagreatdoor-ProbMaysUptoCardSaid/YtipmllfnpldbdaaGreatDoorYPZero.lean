/- What this claim leans on. -/
import Derived.Test.YtipmllfnpldbdaaGreatDoorYPLeft
import Derived.Test.YtipmllfnpldbdaaGreatDoorYPLine
import Derived.Laws.Append
set_option linter.unusedVariables false
set_option linter.unusedSimpArgs false
namespace Go.Proofs.YtipmllfnpldbdaaGreatDoor
open Go Go.RowKit Go.Proofs.Tryz
set_option maxHeartbeats 16000000
set_option maxRecDepth 100000
variable {cs:Array Value}{L xs ys:List Rat}{c g h m:Nat}{t:TypeId}{w w':World}{A C:zf}
theorem ZL {P:Program}{w:World}(t tn ty e:TypeId)(i:TypeInfo)(z:Value)(kn:IntKind)(ht:P.underlying t=some (.slice e))(G:P.underlying tn=some (.int kn))(hi:P.info? e=some i)(hz:i.zero=some z)
  (b:Addr) (a d:Nat) (g:List Value) (C:g.length=a*i.size) (h:∀j v,g[j]?=some v->w.cell? (b.add j)=some v)
  (n:Nat) (D:0<n) (A:0<i.size) (hb1:0<i.bytes) (hg:d<a+n) (h63:((a+n:Nat):Int)<=9223372036854775807) (hfit:Builtin.nextslicecap (a+n) d*i.bytes<=281474976710656) (hnb:n*i.bytes<=281474976710656):
  (Builtin.append_ #[t,tn] ty #[.slice (some b) a d,.int .i64 (n : Int)]).run P w =
    .ok (.slice (some ⟨w.heap.size,0,none⟩) (a + n) (grownCap w (a + n) d e))
     (w.drew.alloc (.cells (g.toArray++Builtin.zeroCells z.cells n++Builtin.zeroCells z.cells (grownCap w (a+n) d e - (a+n))) e)):=by
 have hn:¬(a+n<=d):=za;have x:¬(9223372036854775807<((a:Int)+(n:Int))):=za;have m:¬(281474976710656<Builtin.nextslicecap (a+n) d*i.bytes):=za;have hw:IntKind.i64.wrap (n:Int)=n:=by rw [IntKind.wrap_i64];omega
 have u:¬(281474976710656<(n:Int)*(i.bytes:Int)):=by
  rw [<-QV];omega
 have y:¬((n:Int)<0):=za;have hq:(Question.appendCap (a+n) d e).forced=false:=rfl;have F:n≠0:=za;have E:i.size≠0:=za;have B:=run_firstCells_some (P:=P) w.drew i.size a b a d g C (by simpa using h);simp [Builtin.append_,run_underlying ht,run_underlying G,sizeOf,typeInfo,zeroValue,hi,hz,asInt,asIntOf,hw,y,u,hn,x,m,hq,F,E,B,newRow,grownCap];intro h9;have h8:=Nat.mul_pos D A;omega
theorem ZF {P:Program}(t tn ty e:TypeId)(i:TypeInfo)(kn:IntKind)(ht:P.underlying t=some (.slice e))(g:P.underlying tn=some (.int kn))(hi:P.info? e=some i)
  (b:Addr) (d a:Nat) (hc:d<=a):
  (Builtin.append_ #[t,tn] ty #[.slice (some b) d a,.int .i64 0]).run P w=.ok (.slice (some b) d a) w:=by
 have hw:IntKind.i64.wrap (0:Int)=0:=zh;simp [Builtin.append_,run_underlying ht,run_underlying g,sizeOf,typeInfo,zeroValue,hi,asInt,asIntOf,hw,hc,storeCells]
theorem Yh {k d:Nat}(h:yk w g k xs)(hk:k<=1000000:=by omega)(hd:d<=1000000:=by omega):
  ∃(q c:Nat) (w':World),(Builtin.append_ #[32,3] 32 #[.slice (some ⟨g,0,none⟩) k k,.int .i64 (d:Int)]).run prog w=.ok (.slice (some ⟨q,0,none⟩) (k+d) c) w'/\(q=g\/w.heap.size<=q)/\zF w' (some ⟨q,0,none⟩) (k+d) c (xs++List.replicate d 0)/\yv w' q 60/\Below w.heap.size w w':=by
 obtain⟨i0,C,L,G,z⟩:=info_parts ki;have E:prog.underlying 3=some (.int .i64):=zm;by_cases hd0:d=0
 ·subst hd0;refine⟨g,k,w,ZF _ _ _ _ i0 .i64 underlying32 E C _ k k (qX _),Or.inl rfl,?_,?_,qY _ _⟩
  ·rw [List.replicate_zero,List.append_nil];exact yF.row h za
  ·obtain⟨cs,K,_⟩:=h.blk;exact⟨cs,K⟩
 ·have hv:zF w (some ⟨g,0,none⟩) k k xs:=yF.row h za;obtain⟨vs,v1,v2,v3,v4,v5⟩:=yf.cells hv;have hr:=ZL (P:=prog) (w:=w) 32 3 32 _ i0 _ .i64 underlying32 E C L ⟨g,0,none⟩ k k vs (by rw [G];exact v1) v2 d za (by rw [G];decide) (by rw [z];decide) za za (by rw [z];exact growslice_fits za za) (by rw [z];omega);obtain⟨y,t⟩:∃c,grownCap w (k+d) k 60=c:=⟨_,rfl⟩;have H:k+d<=y:=t▸grownCap_ge w (k+d) k _;have I:y<=maxLen:=t▸grownCap_le_maxLen w (k+d) k _ (by unfold maxLen;omega);rw [t] at hr;obtain⟨Z,hZ⟩:∃Z,vs.toArray++Builtin.zeroCells (Value.agg #[.bool false,.slice none 0 0,.slice none 0 0]).cells d++Builtin.zeroCells (Value.agg #[.bool false,.slice none 0 0,.slice none 0 0]).cells (y - (k+d))=Z:=⟨_,rfl⟩;have hb:Below w.heap.size w (w.drew.alloc (.cells Z 60)):=((qY w.heap.size w).drew).alloc (qX _) _;rw [hZ] at hr;have a:zi (w.drew.alloc (.cells Z 60)) w.heap.size 60 Z:=zi.new w.drew _ _;have D:w.heap.size<(w.drew.alloc (.cells Z 60)).heap.size:=a.lt;have A:(Value.agg #[.bool false,.slice none 0 0,.slice none 0 0]).cells=#[.bool false,.slice none 0 0,.slice none 0 0]:=rfl;have a1:∀j,j<k*3->Z[j]?=vs[j]?:=λj hj=>by
   rw [<-hZ,Array.getElem?_append_left (by simp [v1];omega),Array.getElem?_append_left (by simp [v1];omega)];simp
  have a2:∀j,j<d*3->Z[k*3+j]?=some (#[Value.bool false,.slice none 0 0,.slice none 0 0][j%3]!):=λj hj=>by
   rw [<-hZ,Array.getElem?_append_left (by simp [v1,Builtin.zeroCells,A];omega),Array.getElem?_append_right (by simp [v1])];simp only [xH,v1,QW,Builtin.zeroCells,A];simp [hj]
  refine⟨w.heap.size,y,_,hr,Or.inr (qX _),⟨by rw [qA,QE,h.len],H,by unfold maxLen at I;omega,λi x hi=>?_⟩,⟨Z,a⟩,hb⟩;by_cases hlt2:i<k
  ·rw [qO (by rw [h.len];exact hlt2)] at hi;obtain⟨b,B,m,d',F,u,v,h1,h2,h3,h4⟩:=v5 _ x hi;refine⟨_,b,B,m,d',F,u,v,rfl,D,?_,?_,?_,h4.below hb⟩
   ·rw [xn,a.cell,a1 _ za];exact h1
   ·rw [xn,a.cell,a1 _ za];exact h2
   ·rw [xn,a.cell,a1 _ za];exact h3
  ·rw [qD (by rw [h.len];omega),h.len] at hi;have J:i - k<d:=by
    have:=(List.getElem?_eq_some_iff.1 hi).1;simpa using this
   obtain rfl:(0:Rat)=x:=by
    rw [List.getElem?_replicate,if_pos J] at hi;injection hi
   have e0:((i - k)*3)%3=0:=za;have e1:((i - k)*3+1)%3=1:=za;have e2:((i - k)*3+2)%3=2:=za;refine⟨_,false,none,0,0,none,0,0,rfl,D,?_,?_,?_,mE _⟩
   ·rw [xn,a.cell,show i*3=k*3+(i - k)*3 by omega,a2 _ za,e0];rfl
   ·rw [xn,a.cell,show i*3+1=k*3+((i - k)*3+1) by omega,a2 _ za,e1];rfl
   ·rw [xn,a.cell,show i*3+2=k*3+((i - k)*3+2) by omega,a2 _ za,e2];rfl
structure SD where
 A:List (List Rat)
 B:List Rat
 C:List Rat
 own:Nat
 left:List Int
def wA (P:PB):List (List Rat):=(List.range P.rows.length).map λj=>rO (P.rows.getD j zN) (rd P.rows P.cost.length j) (xd P.rows P.cost.length)
def vO (P:PB):SD:=⟨wA P,P.rows.map PR.rhs,P.cost++List.replicate (xd P.rows P.cost.length - P.cost.length) 0,P.cost.length,vv P.rows P.cost.length⟩
structure oe (w:World)(A:zf)(n c m:Nat)(B:zf)(cB:Nat)(C:zf)(cC:Nat)(L:zf)(S:SD):Prop where
 mat:xo w A n c m S.A
 b:zF w B n cB S.B
 c:zF w C m cC S.C
 left:mi w L n S.left
theorem mi.keepP {n:Nat}{zs:List Int}(h:mi w A n zs)(hb:Below w.heap.size w w'):mi w' A n zs:=⟨h.len,h.ints,λi hi=>by
 obtain⟨ad,e,h1⟩:=h.num i hi;exact⟨ad,e,zq hb h1⟩⟩
theorem oe.keep {w':World}{n:Nat}{B:zf}{cB:Nat}{cC:Nat}{L:zf}{S:SD}(h:oe w A n c m B cB C cC L S)(hb:Below w.heap.size w w'):oe w' A n c m B cB C cC L S:=
 ⟨h.mat.keep hb,h.b.keep hb,h.c.keep hb,h.left.keepP hb⟩
def iM (w:World)(n m:Nat)(S:SD)(e:Ending)(w':World):Prop:=∃(A:zf) (c:Nat) (B:zf) (cB:Nat) (C:zf) (cC:Nat) (gL:Nat) (cL:Nat),e=.returned (.tuple #[.agg #[.slice A n c,.int .i64 (m:Int),.slice B n cB,.slice C m cC,.int .i64 (S.own:Int),.slice (some ⟨gL,0,none⟩) n cL],.nilIface])/\oe w' A n c m B cB C cC (some ⟨gL,0,none⟩) S/\Below w.heap.size w w'
section
variable {w:World}{g:Nat}{t:TypeId}{a b c d e f:Value}
theorem zi.c6 (h:zi w g t #[a,b,c,d,e,f]):w.cell? ⟨g,0,none⟩=some a/\w.cell? ⟨g,1,none⟩=some b/\w.cell? ⟨g,2,none⟩=some c/\w.cell? ⟨g,3,none⟩=some d/\w.cell? ⟨g,4,none⟩=some e/\w.cell? ⟨g,5,none⟩=some f:=⟨h.cell 0,h.cell 1,h.cell 2,h.cell 3,h.cell 4,h.cell 5⟩
def uL (w:World)(g:Nat)(a b c d e f:Value):World:=(((((w.setCell ⟨g,0,none⟩ a).setCell ⟨g,1,none⟩ b).setCell ⟨g,2,none⟩ c).setCell ⟨g,3,none⟩ d).setCell ⟨g,4,none⟩ e).setCell ⟨g,5,none⟩ f
theorem oA (h:zi w g t #[a,b,c,d,e,f])(x y z u v:Value):w.cell? ⟨g,0,none⟩=some a/\w.frozen? ⟨g,0,none⟩=false/\(w.setCell ⟨g,0,none⟩ x).cell? ⟨g,1,none⟩=some b/\(w.setCell ⟨g,0,none⟩ x).frozen? ⟨g,1,none⟩=false/\((w.setCell ⟨g,0,none⟩ x).setCell ⟨g,1,none⟩ y).cell? ⟨g,2,none⟩=some c/\((w.setCell ⟨g,0,none⟩ x).setCell ⟨g,1,none⟩ y).frozen? ⟨g,2,none⟩=false/\
  (((w.setCell ⟨g,0,none⟩ x).setCell ⟨g,1,none⟩ y).setCell ⟨g,2,none⟩ z).cell? ⟨g,3,none⟩=some d/\(((w.setCell ⟨g,0,none⟩ x).setCell ⟨g,1,none⟩ y).setCell ⟨g,2,none⟩ z).frozen? ⟨g,3,none⟩=false/\
  ((((w.setCell ⟨g,0,none⟩ x).setCell ⟨g,1,none⟩ y).setCell ⟨g,2,none⟩ z).setCell ⟨g,3,none⟩ u).cell? ⟨g,4,none⟩=some e/\((((w.setCell ⟨g,0,none⟩ x).setCell ⟨g,1,none⟩ y).setCell ⟨g,2,none⟩ z).setCell ⟨g,3,none⟩ u).frozen? ⟨g,4,none⟩=false/\
  (((((w.setCell ⟨g,0,none⟩ x).setCell ⟨g,1,none⟩ y).setCell ⟨g,2,none⟩ z).setCell ⟨g,3,none⟩ u).setCell ⟨g,4,none⟩ v).cell? ⟨g,5,none⟩=some f/\(((((w.setCell ⟨g,0,none⟩ x).setCell ⟨g,1,none⟩ y).setCell ⟨g,2,none⟩ z).setCell ⟨g,3,none⟩ u).setCell ⟨g,4,none⟩ v).frozen? ⟨g,5,none⟩=false:=
 have h1:=h.set_ 0 x
 have h2:=h1.set_ 1 y
 have h3:=h2.set_ 2 z
 have h4:=h3.set_ 3 u
 have h5:=h4.set_ 4 v
 ⟨h.cell 0,h.frozen 0,h1.cell 1,h1.frozen 1,h2.cell 2,h2.frozen 2,h3.cell 3,h3.frozen 3,h4.cell 4,h4.frozen 4,h5.cell 5,h5.frozen 5⟩
theorem jX (h:zi w g t #[a,b,c,d,e,f])(x y z u v p:Value):zi (uL w g x y z u v p) g t #[x,y,z,u,v,p]:=(((((h.set_ 0 x).set_ 1 y).set_ 2 z).set_ 3 u).set_ 4 v).set_ 5 p
theorem nB (w:World)(g:Nat)(x y z u v p:Value):xe g w (uL w g x y z u v p):=((((((xe.refl g w).set_ 0 x).set_ 1 y).set_ 2 z).set_ 3 u).set_ 4 v).set_ 5 p
theorem jI {w0:World}(x y z u v p:Value)(hg:w0.heap.size<=g)(h:Below w0.heap.size w0 w):Below w0.heap.size w0 (uL w g x y z u v p):=
 zH p hg (zH v hg (zH u hg (zH z hg (rt x y hg h))))
theorem zi.far6 {q:Nat}{s:TypeId}(h:zi w q s cs)(hn:q≠g)(x y z u v p:Value):zi (uL w g x y z u v p) q s cs:=by
 unfold uL;exact zi.far (p:=⟨g,5,none⟩) (zi.far (p:=⟨g,4,none⟩) (zi.far (p:=⟨g,3,none⟩) (zi.far (p:=⟨g,2,none⟩) (zi.far (p:=⟨g,1,none⟩) (zi.far (p:=⟨g,0,none⟩) h hn x) hn y) hn z) hn u) hn v) hn p
end
theorem xo.offK {n:Nat}{M:List (List Rat)}(h:xo w A n c m M)(hk:zi w g t cs)(hs:∀u ∈ cs.toList,∀b,u≠.bool b)(a:vB .u64 cs)(ho:zY g w w')(hb:∀q s ds,q≠g->zi w q s ds->zi w' q s ds)(ht:32≠t:=by decide):xo w' A n c m M:=
 { h with
  rows:=h.rows.off (λad e=>(h.ty ad e).ne hk ht) ho (λh3=>mc h3 hk hs a ho)
  ty:=λad e=>by
   have d:=(h.ty ad e).ne hk ht;obtain⟨ds,hd⟩:=h.ty ad e;exact⟨ds,hb _ _ _ d hd⟩}
theorem yk.offB {q:Nat}(hv:yk w q m L)(hk:zi w h t cs)(hn:vB .u64 cs)(ho:zY h w w')(hb:∀q s ds,q≠h->zi w q s ds->zi w' q s ds)(hq:q≠h):yk w' q m L:=by
 refine⟨hv.len,?_,λi x hi=>?_⟩
 ·obtain⟨ds,h1,h2,h3⟩:=hv.blk;exact⟨ds,hb _ _ _ hq h1,h2,h3⟩
 ·obtain⟨b,B,k,d,F,u,v,h1,h2,h3,h4⟩:=hv.num i x hi;have hl:=hv.lt;exact⟨b,B,k,d,F,u,v,(ho.2 _ hl hq).trans h1,(ho.2 _ hl hq).trans h2,(ho.2 _ hl hq).trans h3,nZ hk hn ho h4⟩
theorem zF.offB {n:Nat}(hv:zF w C n c L)(hk:zi w h t cs)(hn:vB .u64 cs)(ho:zY h w w')(hq:∀ad,C=some ad->ad.block≠h):zF w' C n c L:=by
 refine⟨hv.len,hv.fits,hv.most,λi x hi=>?_⟩;obtain⟨ad,b,B,m,d,F,u,v,e,h1,h2,h3,h4,h5⟩:=hv.num i x hi;have hc:∀j,w'.cell? (ad.add j)=w.cell? (ad.add j):=λj=>ho.2 _ (by rw [y9];exact h1) (by rw [y9];exact hq ad e);exact⟨ad,b,B,m,d,F,u,v,e,qJ h1 ho.1,(hc _).trans h2,(hc _).trans h3,(hc _).trans h4,nZ hk hn ho h5⟩
def mT (g:Nat):RP Rat:=λw A n c xs=>zF w A n c xs/\∀ad,A=some ad->ad.block≠g
theorem iD (g:Nat):rf (mT g):=⟨λh=>h.1.len,λh hb=>⟨h.1.keep hb,h.2⟩,λh hk hs ho=>⟨iO y6 h.1 hk hs ho,h.2⟩,λw=>⟨yf.nil w,λad e=>by cases e⟩⟩
theorem jj (h:yd cs):vB .u64 cs:=λv hv z e=>h v hv .u64 z e
structure vT (w:World)(n k cols gR gS gB gL gW gC cC:Nat)(Bs C:List Rat)(ls:List Int)(Ls:List (List Rat)):Prop where
 r:zi w gR 35 #[.slice none 0 0,.int .i64 0,.slice none 0 0,.slice none 0 0,.int .i64 0,.slice none 0 0]
 s:zi w gS 35 #[.slice none 0 0,.int .i64 0,.slice (some ⟨gB,0,none⟩) n n,.slice (some ⟨gC,0,none⟩) cols cC,.int .i64 (k:Int),.slice (some ⟨gL,0,none⟩) n n]
 b:yk w gB n Bs
 c:zF w (some ⟨gC,0,none⟩) cols cC C
 l:zi w gL 3 (wG ls)
 o:y8 (mT gB) w 32 gW n Ls
 ne:gC≠gB
theorem xy {a b:Nat}{s:TypeId}{ds:Array Value}(h:zi w a s cs)(k:zi w b t ds)(hn:s≠t):a≠b:=h.ne_ k hn
section
variable {w:World}{n k cols gR gS gB gL gW gC cC:Nat}{Bs C:List Rat}{ls:List Int}{Ls:List (List Rat)}
theorem vT.below (h:vT w n k cols gR gS gB gL gW gC cC Bs C ls Ls)(hb:Below w.heap.size w w'):vT w' n k cols gR gS gB gL gW gC cC Bs C ls Ls:=
 ⟨zj hb h.r,zj hb h.s,h.b.keep hb,h.c.keep hb,zj hb h.l,h.o.below (iD gB) hb,h.ne⟩
theorem y8.offB (hv:y8 (mT h) w 32 gW n Ls)(hk:zi w h t cs)(hn:vB .u64 cs)(ho:zY h w w')(hb:∀q s ds,q≠h->zi w q s ds->zi w' q s ds)(hq:gW≠h):y8 (mT h) w' 32 gW n Ls:=by
 refine⟨hv.len,?_,λi x hi=>?_⟩
 ·obtain⟨ds,h1,h2,h3⟩:=hv.blk;exact⟨ds,hb _ _ _ hq h1,h2,h3⟩
 ·obtain⟨B,d,h1,h2,h3⟩:=hv.num i x hi;exact⟨B,d,(ho.2 _ hv.lt hq).trans h1,zF.offB h2 hk hn ho h3,h3⟩
theorem sF (g i j k:Nat)(w:World)(x y z:Value):∀q s ds,q≠g->zi w q s ds->zi (((w.setCell ⟨g,i,none⟩ x).setCell ⟨g,j,none⟩ y).setCell ⟨g,k,none⟩ z) q s ds:=λq s ds hq h=>
 zi.far (p:=⟨g,k,none⟩) (zi.far (p:=⟨g,j,none⟩) (zi.far (p:=⟨g,i,none⟩) h hq x) hq y) hq z
theorem vT.setB (h:vT w n k cols gR gS gB gL gW gC cC Bs C ls Ls){i:Nat}(hi:i<n){x:Rat}{b:Bool}{A E:zf}{m d u v:Nat}(hx:zu w x b A m d E u v):
  vT (((w.setCell ⟨gB,i*3,none⟩ (.bool b)).setCell ⟨gB,i*3+1,none⟩ (.slice A m d)).setCell ⟨gB,i*3+2,none⟩ (.slice E u v)) n k cols gR gS gB gL gW gC cC (Bs.set i x) C ls Ls:=by
 obtain⟨cs,hk,hn,hz⟩:=h.b.blk;have hb:=sF gB (i*3) (i*3+1) (i*3+2) w (.bool b) (.slice A m d) (.slice E u v);have ho:=zY.of_far (kB gB (i*3) (i*3+1) (i*3+2) w (.bool b) (.slice A m d) (.slice E u v));obtain⟨ds,hd,_⟩:=h.o.blk;exact ⟨hb _ _ _ (xy h.r hk zh) h.r,hb _ _ _ (xy h.s hk zh) h.s,yF.set_ y6 h.b hi hx,zF.offB h.c hk (jj hn) ho (fun ad e => by injection e with e; subst e; exact h.ne),hb _ _ _ (xy h.l hk zh) h.l,
  y8.offB h.o hk (jj hn) ho hb (xy hd hk zh),h.ne⟩
theorem vT.setW (h:vT w n k cols gR gS gB gL gW gC cC Bs C ls Ls){i m d:Nat}(hi:i<n){L:List Rat}{A:zf}(hx:zF w A m d L)(a:∀ad,A=some ad->ad.block≠gB):
  vT (w.setCell ⟨gW,i,none⟩ (.slice A m d)) n k cols gR gS gB gL gW gC cC Bs C ls (Ls.set i L):=by
 obtain⟨cs,hk,hn,hz⟩:=h.o.blk;have hb:∀q s ds,q≠gW->zi w q s ds->zi (w.setCell ⟨gW,i,none⟩ (.slice A m d)) q s ds:=λq s ds hq h=>zi.far (p:=⟨gW,i,none⟩) h hq _;have ho:zY gW w (w.setCell ⟨gW,i,none⟩ (.slice A m d)):=zY.of_far ((xe.refl gW w).set_ i _);obtain⟨ds,hd,hd1,_⟩:=h.b.blk;exact ⟨hb _ _ _ (xy h.r hk zh) h.r,hb _ _ _ (xy h.s hk zh) h.s,yk.offB h.b hk (jj (sJ hn)) ho hb (xy hd hk zh),iO y6 h.c hk hn ho,hb _ _ _ (xy h.l hk zh) h.l,
  y8.set_ (iD gB) h.o hi ⟨hx,a⟩ hx.len,h.ne⟩
theorem vT.lines (h:vT w n k cols gR gS gB gL gW gC cC Bs C ls Ls):wf (yf zu) w (some ⟨gW,0,none⟩) n Ls:=
 ⟨h.o.len,λi x hi=>by
  obtain⟨B,d,h1,h2⟩:=h.o.num i x hi;exact⟨_,B,d,rfl,h.o.lt,by rw [xn];exact h1,h2.1⟩⟩
end
theorem yk.head {q n:Nat}(h:yk w q c (xs++ys))(hx:xs.length=n)(hc:c<=9223372036854775807):zF w (some ⟨q,0,none⟩) n c xs:=by
 have hl:=h.len;rw [qA] at hl;refine⟨hx,za,hc,λi x hi=>?_⟩;have a:=(List.getElem?_eq_some_iff.1 hi).1;obtain⟨b,B,m,d,F,u,v,h1,h2,h3,h4⟩:=h.num i x (by rw [qO a];exact hi);exact⟨_,b,B,m,d,F,u,v,rfl,h.lt,by rw [xn];exact h1,by rw [xn];exact h2,by rw [xn];exact h3,h4⟩
theorem ZG {P:Program}(t ty e:TypeId)(i:TypeInfo)(ht:P.underlying t=some (.slice e))(hi:P.info? e=some i)(b:Addr)(d a:Nat)(x:zf)(c:Nat)(hc:d<=a):
  (Builtin.append_ #[t,t] ty #[.slice (some b) d a,.slice x 0 c]).run P w=.ok (.slice (some b) d a) w:=by
 cases x<;>simp [Builtin.append_,run_underlying ht,sizeOf,typeInfo,hi,Builtin.lenOf,Builtin.firstCells,hc,storeCells,loadCells,loadCellsFrom]
theorem Y6 {k d cN:Nat}{N:Addr}(h:yk w g k xs)(h2:zF w (some N) d cN ys)(hk:k<=1000000:=by omega)(hd:d<=1000000:=by omega):
  ∃(q c:Nat) (w':World),(Builtin.append_ #[32,32] 32 #[.slice (some ⟨g,0,none⟩) k k,.slice (some N) d cN]).run prog w=.ok (.slice (some ⟨q,0,none⟩) (k+d) c) w'/\(q=g\/w.heap.size<=q)/\k+d<=c/\c<=9223372036854775807/\yk w' q c ((xs++ys)++List.replicate (c - (k+d)) 0)/\Below w.heap.size w w':=by
 obtain⟨i0,A,I,C,J⟩:=info_parts ki;by_cases hd0:d=0
 ·subst hd0;obtain rfl:ys=[]:=qM h2.len;refine⟨g,k,w,ZG _ _ _ i0 underlying32 A _ k k _ cN (qX _),Or.inl rfl,qX _,za,?_,qY _ _⟩;rw [xI,xW,List.replicate_zero,List.append_nil,List.append_nil];exact h
 ·have hv:zF w (some ⟨g,0,none⟩) k k xs:=yF.row h za;obtain⟨vs,v1,v2,v3,v4,v5⟩:=yf.cells hv;obtain⟨us,u1,u2,u3,u4,u5⟩:=yf.cells h2;have hr:=run_append_grow (P:=prog) (w:=w) 32 32 _ i0 _ underlying32 A I ⟨g,0,none⟩ k k vs (by rw [C];exact v1) v2 N d cN us (by rw [C];exact u1) u2 za za (by rw [J];exact growslice_fits za za);obtain⟨t,y⟩:∃c,grownCap w (k+d) k 60=c:=⟨_,rfl⟩;have D:k+d<=t:=y▸grownCap_ge w (k+d) k _;have E:t<=maxLen:=y▸grownCap_le_maxLen w (k+d) k _ (by unfold maxLen;omega);have G:t<=9223372036854775807:=by unfold maxLen at E;omega
  rw [y] at hr;obtain⟨Z,hZ⟩:∃Z,vs.toArray++us.toArray++Builtin.zeroCells (Value.agg #[.bool false,.slice none 0 0,.slice none 0 0]).cells (t - (k+d))=Z:=⟨_,rfl⟩;have hb:Below w.heap.size w (w.drew.alloc (.cells Z 60)):=((qY w.heap.size w).drew).alloc (qX _) _;rw [hZ] at hr;have a:zi (w.drew.alloc (.cells Z 60)) w.heap.size 60 Z:=zi.new w.drew _ _;have z:(Value.agg #[.bool false,.slice none 0 0,.slice none 0 0]).cells=#[.bool false,.slice none 0 0,.slice none 0 0]:=rfl;have K:(Builtin.zeroCells (Value.agg #[.bool false,.slice none 0 0,.slice none 0 0]).cells (t - (k+d))).size=(t - (k+d))*3:=by simp [Builtin.zeroCells,z]
  have a1:∀j,j<k*3->Z[j]?=vs[j]?:=λj hj=>by
   rw [<-hZ,Array.getElem?_append_left (by simp [v1];omega),Array.getElem?_append_left (by simp [v1];omega)];simp
  have a2:∀j,j<d*3->Z[k*3+j]?=us[j]?:=λj hj=>by
   rw [<-hZ,Array.getElem?_append_left (by simp [v1,u1];omega),Array.getElem?_append_right (by simp [v1])];simp [v1]
  have a3:∀j,j<(t - (k+d))*3->Z[(k+d)*3+j]?=some (#[Value.bool false,.slice none 0 0,.slice none 0 0][j%3]!):=λj hj=>by
   rw [<-hZ,Array.getElem?_append_right (by simp [v1,u1];omega)];simp only [Array.size_append,xH,v1,u1];rw [show(k+d)*3+j - (k*3+d*3)=j by omega];simp only [Builtin.zeroCells,z];simp [hj]
  refine⟨w.heap.size,t,_,hr,Or.inr (qX _),D,G,⟨by rw [qA,qA,QE,h.len,h2.len];omega,⟨Z,a,?_,?_⟩,λi x hi=>?_⟩,hb⟩
  ·intro u hu k9 z9 e9;rw [<-hZ] at hu;simp only [yT,XI] at hu;rcases hu with(hu|hu)|hu
   ·exact v4 u hu k9 z9 e9
   ·exact u4 u hu k9 z9 e9
   ·exact Uz u (ig zh hu) k9 z9 e9
  ·rw [<-hZ];simp only [Array.size_append,xH,v1,u1,K];omega
  ·by_cases hlt1:i<k
   ·rw [qO (by rw [qA,h.len];omega),qO (by rw [h.len];exact hlt1)] at hi;obtain⟨b,B,m,d',F,u,v,h1,h2,h3,h4⟩:=v5 _ x hi;refine⟨b,B,m,d',F,u,v,?_,?_,?_,h4.below hb⟩
    ·rw [a.cell,a1 _ za];exact h1
    ·rw [a.cell,a1 _ za];exact h2
    ·rw [a.cell,a1 _ za];exact h3
   ·by_cases hlt2:i<k+d
    ·rw [qO (by rw [qA,h.len,h2.len];exact hlt2),qD (by rw [h.len];omega),h.len] at hi;obtain⟨b,B,m,d',F,u,v,h1,h2,h3,h4⟩:=u5 _ x hi;refine⟨b,B,m,d',F,u,v,?_,?_,?_,h4.below hb⟩
     ·rw [a.cell,show i*3=k*3+(i - k)*3 by omega,a2 _ za];exact h1
     ·rw [a.cell,show i*3+1=k*3+((i - k)*3+1) by omega,a2 _ za];exact h2
     ·rw [a.cell,show i*3+2=k*3+((i - k)*3+2) by omega,a2 _ za];exact h3
    ·rw [qD (by rw [qA,h.len,h2.len];omega),qA,h.len,h2.len] at hi;have H:i - (k+d)<t - (k+d):=by
      have:=(List.getElem?_eq_some_iff.1 hi).1;simpa using this
     obtain rfl:(0:Rat)=x:=by
      rw [List.getElem?_replicate,if_pos H] at hi;injection hi
     have e0:((i - (k+d))*3)%3=0:=za;have e1:((i - (k+d))*3+1)%3=1:=za;have e2:((i - (k+d))*3+2)%3=2:=za;refine⟨false,none,0,0,none,0,0,?_,?_,?_,mE _⟩
     ·rw [a.cell,show i*3=(k+d)*3+(i - (k+d))*3 by omega,a3 _ za,e0];rfl
     ·rw [a.cell,show i*3+1=(k+d)*3+((i - (k+d))*3+1) by omega,a3 _ za,e1];rfl
     ·rw [a.cell,show i*3+2=(k+d)*3+((i - (k+d))*3+2) by omega,a3 _ za,e2];rfl
