/- What this claim leans on. -/
import Derived.Test.YtipmllfnpldbdaaGreatDoorFRCells
import Derived.LaidEql
import Derived.Laws.Append
import Derived.Lib.IfaceEq
import Derived.RowKitTokens
import Derived.Stop.IfaceNil
set_option linter.unusedVariables false
set_option linter.unusedSimpArgs false
namespace Go.Proofs.YtipmllfnpldbdaaGreatDoor
open Go Go.RowKit Go.Proofs.Tryz
open Go.ChangeShapes Go.WideShapes Go.ChangeAt Go.Deep
set_option maxHeartbeats 16000000
namespace UA
set_option maxHeartbeats 16000000
theorem mem_le {H:Type}{d:DataW H}{l:List (DataW H)}(h:d ∈ l):Rows.uptoBulk d<=Rows.uptoBulkAll l:=by
 induction l with
 |nil=>cases h
 |cons x r ih=>
   simp only [Rows.uptoBulkAll];rcases List.mem_cons.1 h with rfl|h
   ·omega
   ·have:=ih h;omega
end UA
open Go Go.RowKit Go.Proofs.Tryz
set_option maxHeartbeats 16000000
variable {xs ys:List Rat}{c d g k n:Nat}{v:Value}{w w':World}{A:zf}
def ke (w:World)(q:Addr)(p:PR):Prop:=∃(C:zf) (c:Nat) (b:Bool) (B:zf) (m d:Nat) (E:zf) (u v:Nat),
 w.cell? q=some (.slice C p.co.length c)/\w.cell? ⟨q.block,q.off+1,none⟩=some (.int .i64 p.kd)/\w.cell? ⟨q.block,q.off+2,none⟩=some (.bool b)/\w.cell? ⟨q.block,q.off+3,none⟩=some (.slice B m d)/\w.cell? ⟨q.block,q.off+4,none⟩=some (.slice E u v)/\
 zy w C p.co.length c p.co/\(∀ad,C=some ad->yv w ad.block 60)/\zt w p.rhs b B m d E u v
theorem ke.keep {w':World}{q:Addr}{p:PR}(h:ke w q p)(hb:Below w.heap.size w w'):ke w' q p:=by
 obtain⟨C,c,b,B,m,d,E,u,v,h0,h1,h2,h3,h4,h5,h6,h7⟩:=h;exact⟨C,c,b,B,m,d,E,u,v,zq hb h0,zq hb h1,zq hb h2,zq hb h3,zq hb h4,h5.keep hb,λad e=>(h6 ad e).below hb,h7.below hb⟩
structure sU (w:World)(A:zf)(n:Nat)(ps:List PR):Prop where
 len:ps.length=n
 num:∀i p,ps[i]?=some p->∃ad:Addr,A=some ad/\ad.block<w.heap.size/\ke w (ad.add (i*5)) p
theorem sU.keep {w':World}{ps:List PR}(h:sU w A n ps)(hb:Below w.heap.size w w'):sU w' A n ps:=
 ⟨h.len,λi p hi=>by
  obtain⟨ad,e,h1,h2⟩:=h.num i p hi;exact⟨ad,e,qJ h1 hb.size,h2.keep hb⟩⟩
theorem sU.nil (w:World)(A:zf):sU w A 0 []:=⟨rfl,λi p hi=>by simp at hi⟩
def zL:PR:=⟨[],0,0⟩
theorem sU.get {wr:World}{ps:List PR}(h:sU w A n ps)(hb:Below w.heap.size w wr){i:Nat}(hi:i<n):∃ad:Addr,A=some ad/\ad.block<w.heap.size/\ke wr (ad.add (i*5)) (ps.getD i zL):=by
 have hl:=h.len;obtain⟨ad,e,h1,h2⟩:=h.num i (ps.getD i zL) (by rw [qQ,qZ za];rfl);exact⟨ad,e,h1,h2.keep hb⟩
structure PB where
 cost:List Rat
 rows:List PR
structure sO (w:World)(D:zf)(k d:Nat)(A:zf)(n q:Nat)(P:PB):Prop where
 cost:zy w D k d P.cost
 rows:sU w A n P.rows
 fits:n<=q
 most:q<=9223372036854775807
 ty:∀ad,D=some ad->yv w ad.block 60
theorem sO.keep {w':World}{D:zf}{q:Nat}{P:PB}(h:sO w D k d A n q P)(hb:Below w.heap.size w w'):sO w' D k d A n q P:=
 ⟨h.cost.keep hb,h.rows.keep hb,h.fits,h.most,λad e=>(h.ty ad e).below hb⟩
def gu (K:Nat)(p:PR):Prop:=zH K p.co/\zp K p.rhs
def mG (K:Nat)(ps:List PR):Prop:=∀p ∈ ps,gu K p
theorem mG.at_ {K i:Nat}{ps:List PR}(h:mG K ps)(hi:i<ps.length):gu K (ps.getD i zL):=h _ (QA (by rw [qQ,qZ hi];rfl))
def lR (N:Nat)(ps:List PR):Prop:=∀p ∈ ps,p.co.length<=N
theorem lR.at_ {N i:Nat}{ps:List PR}(h:lR N ps)(hi:i<ps.length):(ps.getD i zL).co.length<=N:=h _ (QA (by rw [qQ,qZ hi];rfl))
open Go Go.RowKit Go.Proofs.Tryz
set_option maxHeartbeats 16000000
set_option maxRecDepth 100000
theorem Ww {q:Nat}{C:zf}{L zs:List Rat}(hv:yk w q n L)(hz:zy w C k c zs)(hk:k<=n)(dT sT ty:TypeId)(hu:prog.underlying dT=some (.slice 60)):
  ∃r w',(Builtin.copy_ #[dT,sT] ty #[.slice (some ⟨q,0,none⟩) n n,.slice C k c]).run prog w=.ok r w'/\yk w' q n (zs++L.drop k)/\∀(w0:World) (B0:Nat),B0<=q->Below B0 w0 w->Below B0 w0 w':=by
 obtain⟨i0,E,hz0,M,hz2⟩:=info_parts mK;obtain⟨cs,g,I,hsz⟩:=hv.blk;have G:=hz.len;cases C with
 |none=>
   have h0:k=0:=by
    cases k with
    |zero=>rfl
    |succ k=>
      obtain⟨ad,_,_,_,_,_,_,_,e,_⟩:=hz.num 0 (zs.getD 0 0) (nJ za);cases e
   subst h0;obtain rfl:zs=[]:=qN G;refine⟨goInt 0,w,?_,hv,λ_ _ _ h=>h⟩;simp [Builtin.copy_,run_underlying hu,Builtin.lenOf,Builtin.firstCells,sizeOf,typeInfo,E,storeCells,loadCells,loadCellsFrom]
 |some a=>
   obtain⟨vs,v1,v2,v3,v4,v5⟩:=yh.cells hz;have y:Nat.min k n=k:=QP hk;have hr:=Wr (P:=prog) w dT sT ty 60 q 0 n n a k c cs 60 vs hu (by rw [E];simp [M]) g (by rw [y];exact v1) v2 za v3;rw [y] at hr;obtain⟨new,A⟩:∃new,(cs.toList.take 0++vs++cs.toList.drop (0+vs.length)).toArray=new:=⟨_,rfl⟩;rw [A] at hr;have d:zi (w.setRow q new) q 60 new:=setRow_heap w q cs new _ _ g;have t:new.toList=vs++cs.toList.drop (k*3):=by
    rw [<-A,v1];simp
   have D:zZ q w (w.setRow q new):=⟨zD,λp hp K=>by
    unfold World.cell?;simp only [setRow_other w q p.block new K]⟩
   have H:vE .u64 cs:=λv hv z e=>I v hv .u64 z e;have a1:∀j,k*3<=j->new[j]?=cs[j]?:=λj hj=>by
    rw [<-QL,t,qD za,v1,YQ,QL];congr 1;omega
   have a2:∀j,j<k*3->new[j]?=vs[j]?:=λj hj=>by
    rw [<-QL,t,qO za]
   refine⟨_,_,hr,⟨by rw [qB,yW,hv.len];omega,⟨new,d,?_,?_⟩,λi x hi=>?_⟩,λw0 B0 hB hb=>hb.trans ⟨rfl,rfl,rfl,zD,λk hk=>setRow_other w q k new za⟩⟩
   ·intro u J k9 z9;rw [t] at J;rcases List.mem_append.1 J with h|h
    ·exact v4 u h k9 z9
    ·exact I u (YU h) k9 z9
   ·rw [<-XH,t,qB,v1,yW,XH];omega
   ·by_cases hlt:i<k
    ·rw [qO za] at hi;obtain⟨b,B,m,d',F,u,v,h1,h2,h3,h4⟩:=v5 _ x hi;refine⟨b,B,m,d',F,u,v,?_,?_,?_,nL g H D h4⟩
     ·rw [d.cell,a2 _ za];exact h1
     ·rw [d.cell,a2 _ za];exact h2
     ·rw [d.cell,a2 _ za];exact h3
    ·rw [qD za,YQ,G,show k+(i - k)=i by omega] at hi;obtain⟨b,B,m,d',F,u,v,h1,h2,h3,h4⟩:=hv.num i x hi;exact⟨b,B,m,d',F,u,v,by rw [d.cell,a1 _ za,<-g.cell];exact h1,by rw [d.cell,a1 _ za,<-g.cell];exact h2,by rw [d.cell,a1 _ za,<-g.cell];exact h3,nL g H D h4⟩
open Go Go.RowKit Go.Proofs.Tryz
set_option maxHeartbeats 16000000
set_option maxRecDepth 100000
theorem aR {P:Program}{w:World}(t tn ty e:TypeId)(i:TypeInfo)(z:Value)(kn:IntKind)(ht:P.underlying t=some (.slice e))(G:P.underlying tn=some (.int kn))(hi:P.info? e=some i)(hz:i.zero=some z)
  (b:Addr) (a d:Nat) (g:List Value) (C:g.length=a*i.size) (h:∀j v,g[j]?=some v->w.cell? (b.add j)=some v)
  (n:Nat) (D:0<n) (A:0<i.size) (hb1:0<i.bytes) (hg:d<a+n) (h63:((a+n:Nat):Int)<=9223372036854775807) (hfit:Builtin.nextslicecap (a+n) d*i.bytes<=281474976710656) (hnb:n*i.bytes<=281474976710656):
  (Builtin.append_ #[t,tn] ty #[.slice (some b) a d,.int .i64 (n : Int)]).run P w =
    .ok (.slice (some ⟨w.heap.size,0,none⟩) (a + n) (grownCap w (a + n) d e))
     (w.drew.alloc (.cells (g.toArray++Builtin.zeroCells z.cells n++Builtin.zeroCells z.cells (grownCap w (a+n) d e - (a+n))) e)):=by
 have hn:¬(a+n<=d):=za;have x:¬(9223372036854775807<((a:Int)+(n:Int))):=za;have m:¬(281474976710656<Builtin.nextslicecap (a+n) d*i.bytes):=za;have hw:IntKind.i64.wrap (n:Int)=n:=by rw [IntKind.wrap_i64];omega
 have u:¬(281474976710656<(n:Int)*(i.bytes:Int)):=by
  rw [<-QU];omega
 have y:¬((n:Int)<0):=za;have hq:(Question.appendCap (a+n) d e).forced=false:=rfl;have F:n≠0:=za;have E:i.size≠0:=za;have B:=run_firstCells_some (P:=P) w.drew i.size a b a d g C (by simpa using h);simp [Builtin.append_,run_underlying ht,run_underlying G,sizeOf,typeInfo,zeroValue,hi,hz,asInt,asIntOf,hw,y,u,hn,x,m,hq,F,E,B,newRow,grownCap];intro h9;have h8:=Nat.mul_pos D A;omega
theorem aM {P:Program}(t tn ty e:TypeId)(i:TypeInfo)(kn:IntKind)(ht:P.underlying t=some (.slice e))(g:P.underlying tn=some (.int kn))(hi:P.info? e=some i)
  (b:Addr) (d a:Nat) (hc:d<=a):
  (Builtin.append_ #[t,tn] ty #[.slice (some b) d a,.int .i64 0]).run P w=.ok (.slice (some b) d a) w:=by
 have hw:IntKind.i64.wrap (0:Int)=0:=zh;simp [Builtin.append_,run_underlying ht,run_underlying g,sizeOf,typeInfo,zeroValue,hi,asInt,asIntOf,hw,hc,storeCells]
theorem Zd {d:Nat}(h:yk w g k xs)(hk:k<=1000000:=by omega)(hd:d<=1000000:=by omega):
  ∃(q c:Nat) (w':World),(Builtin.append_ #[32,3] 32 #[.slice (some ⟨g,0,none⟩) k k,.int .i64 (d:Int)]).run prog w=.ok (.slice (some ⟨q,0,none⟩) (k+d) c) w'/\(q=g\/w.heap.size<=q)/\zy w' (some ⟨q,0,none⟩) (k+d) c (xs++List.replicate d 0)/\yv w' q 60/\Below w.heap.size w w':=by
 obtain⟨i0,C,L,G,z⟩:=info_parts mK;have E:prog.underlying 3=some (.int .i64):=zV;by_cases hd0:d=0
 ·subst hd0;refine⟨g,k,w,aM _ _ _ _ i0 .i64 underlying32 E C _ k k (qX _),Or.inl rfl,?_,?_,qY _ _⟩
  ·rw [List.replicate_zero,List.append_nil];exact y6.row h za
  ·obtain⟨cs,K,_⟩:=h.blk;exact⟨cs,K⟩
 ·have hv:zy w (some ⟨g,0,none⟩) k k xs:=y6.row h za;obtain⟨vs,v1,v2,v3,v4,v5⟩:=yh.cells hv;have hr:=aR (P:=prog) (w:=w) 32 3 32 _ i0 _ .i64 underlying32 E C L ⟨g,0,none⟩ k k vs (by rw [G];exact v1) v2 d za (by rw [G];decide) (by rw [z];decide) za za (by rw [z];exact growslice_fits za za) (by rw [z];omega);obtain⟨y,t⟩:∃c,grownCap w (k+d) k 60=c:=⟨_,rfl⟩;have H:k+d<=y:=t▸grownCap_ge w (k+d) k _;have I:y<=maxLen:=t▸grownCap_le_maxLen w (k+d) k _ (by unfold maxLen;omega);rw [t] at hr;obtain⟨Z,hZ⟩:∃Z,vs.toArray++Builtin.zeroCells (Value.agg #[.bool false,.slice none 0 0,.slice none 0 0]).cells d++Builtin.zeroCells (Value.agg #[.bool false,.slice none 0 0,.slice none 0 0]).cells (y - (k+d))=Z:=⟨_,rfl⟩;have hb:Below w.heap.size w (w.drew.alloc (.cells Z 60)):=((qY w.heap.size w).drew).alloc (qX _) _;rw [hZ] at hr;have a:zi (w.drew.alloc (.cells Z 60)) w.heap.size 60 Z:=zi.new w.drew _ _;have D:w.heap.size<(w.drew.alloc (.cells Z 60)).heap.size:=a.lt;have A:(Value.agg #[.bool false,.slice none 0 0,.slice none 0 0]).cells=#[.bool false,.slice none 0 0,.slice none 0 0]:=rfl;have a1:∀j,j<k*3->Z[j]?=vs[j]?:=λj hj=>by
   rw [<-hZ,Array.getElem?_append_left (by simp [v1];omega),Array.getElem?_append_left (by simp [v1];omega)];simp
  have a2:∀j,j<d*3->Z[k*3+j]?=some (#[Value.bool false,.slice none 0 0,.slice none 0 0][j%3]!):=λj hj=>by
   rw [<-hZ,Array.getElem?_append_left (by simp [v1,Builtin.zeroCells,A];omega),Array.getElem?_append_right (by simp [v1])];simp only [xH,v1,QW,Builtin.zeroCells,A];simp [hj]
  refine⟨w.heap.size,y,_,hr,Or.inr (qX _),⟨by rw [qB,QB,h.len],H,by unfold maxLen at I;omega,λi x hi=>?_⟩,⟨Z,a⟩,hb⟩;by_cases hlt2:i<k
  ·rw [qO (by rw [h.len];exact hlt2)] at hi;obtain⟨b,B,m,d',F,u,v,h1,h2,h3,h4⟩:=v5 _ x hi;refine⟨_,b,B,m,d',F,u,v,rfl,D,?_,?_,?_,h4.below hb⟩
   ·rw [xh,a.cell,a1 _ za];exact h1
   ·rw [xh,a.cell,a1 _ za];exact h2
   ·rw [xh,a.cell,a1 _ za];exact h3
  ·rw [qD (by rw [h.len];omega),h.len] at hi;have J:i - k<d:=by
    have:=(List.getElem?_eq_some_iff.1 hi).1;simpa using this
   obtain rfl:(0:Rat)=x:=by
    rw [List.getElem?_replicate,if_pos J] at hi;injection hi
   have e0:((i - k)*3)%3=0:=za;have e1:((i - k)*3+1)%3=1:=za;have e2:((i - k)*3+2)%3=2:=za;refine⟨_,false,none,0,0,none,0,0,rfl,D,?_,?_,?_,mo _⟩
   ·rw [xh,a.cell,show i*3=k*3+(i - k)*3 by omega,a2 _ za,e0];rfl
   ·rw [xh,a.cell,show i*3+1=k*3+((i - k)*3+1) by omega,a2 _ za,e1];rfl
   ·rw [xh,a.cell,show i*3+2=k*3+((i - k)*3+2) by omega,a2 _ za,e2];rfl
open Go Go.RowKit Go.Proofs.Tryz
set_option maxHeartbeats 16000000
set_option maxRecDepth 100000
theorem o5 {r c:Int}{b:Bool}(h:uF r c=b)(w:World):Calls prog 81 #[.int .i64 r,.int .i64 c] w (λe w'=>e=.returned (.bool b)/\w=w'):=h▸qo r c w
theorem o1 (fn:Fn)(first a:Array Value)(w:World):(Instr.makeFunc fn first a).run prog w=.ok (.func fn first a) w:=rfl
section
variable {A:zf}{n c m K:Nat}{MM:List (List Rat)}{w:World}
end
open Go Go.RowKit Go.Proofs.Tryz
set_option maxHeartbeats 16000000
inductive Er where
 |no:Er
 |bare:Int->Er
 |spot:Int->ByteArray->Int->Er
def Er.s:Er->ByteArray|.spot _ s _=>s|_=>{data:=#[]}
open Go Go.RowKit Go.Proofs.Tryz
open Go.RowKit Go.Extern.Stop Go.Stop Go.Extern
set_option maxHeartbeats 16000000
def jh (w:World)(n:Int)(s:ByteArray)(k:Int)(fb:Nat):Prop:=w.cell? ⟨fb,0,none⟩=some (.string s)/\w.cell? ⟨fb,1,none⟩=some (.int .i64 k)/\w.cell? ⟨fb,2,none⟩=some (.iface 71 (.int .i64 n))
def ma (w:World)(er:Er)(v:Value):Prop:=match er with
 |.no=>v=.nilIface
 |.bare n=>v=.iface 71 (.int .i64 n)
 |.spot n s k=>∃fb,v=.iface 144 (.pointer (some ⟨fb,0,none⟩))/\jh w n s k fb
theorem jh.below {n:Int}{s:ByteArray}{k:Int}{fb:Nat}(h:jh w n s k fb)(hb:Below w.heap.size w w'):jh w' n s k fb:=⟨zq hb h.1,zq hb h.2.1,zq hb h.2.2⟩
theorem ma.below {er:Er}(h:ma w er v)(hb:Below w.heap.size w w'):ma w' er v:=by
 cases er with
 |no=>exact h
 |bare n=>exact h
 |spot n s k=>obtain⟨fb,e,hs⟩:=h;exact⟨fb,e,hs.below hb⟩
theorem iG (w:World):(binOp .eql 37 .nilIface .nilIface).run prog w=.ok (.bool true) w:=zV
theorem bX (t:TypeId)(x:Value)(w:World):(binOp .eql 37 (.iface t x) .nilIface).run prog w=.ok (.bool false) w:=run_eql_iface_nil w 37 zV t x
theorem ma.ne {w0:World}{er:Er}(h:ma w0 er v)(hn:er≠.no):∃t x,v=.iface t x:=by
 cases er with
 |no=>exact absurd rfl hn
 |bare n=>exact⟨_,_,h⟩
 |spot n s k=>obtain⟨fb,e,_⟩:=h;exact⟨_,_,e⟩
theorem uY (n:Int)(s:ByteArray)(k:Int)(w:World):
  Calls prog 58 #[.iface 71 (.int .i64 n),.string s,.int .i64 k] w λe w'=>∃v,e=.returned v/\ma w' (.spot n s k) v/\Below w.heap.size w w':=by
 have h0:=bX 71 (.int .i64 n);go_enter func58,ntmps58;go_wp2;go_ret;obtain⟨b1,b2,b3⟩:=zF w 146 #[.string s,.int .i64 k,.iface 71 (.int .i64 n)];exact⟨_,rfl,⟨_,rfl,b2.cell 0,b2.cell 1,b2.cell 2⟩,b1⟩
open Go Go.RowKit Go.Proofs.Tryz
set_option maxHeartbeats 16000000
set_option maxRecDepth 100000
theorem yk.head {q:Nat}(h:yk w q c (xs++ys))(hx:xs.length=n)(hc:c<=9223372036854775807):zy w (some ⟨q,0,none⟩) n c xs:=by
 have hl:=h.len;rw [qB] at hl;refine⟨hx,za,hc,λi x hi=>?_⟩;have a:=(List.getElem?_eq_some_iff.1 hi).1;obtain⟨b,B,m,d,F,u,v,h1,h2,h3,h4⟩:=h.num i x (by rw [qO a];exact hi);exact⟨_,b,B,m,d,F,u,v,rfl,h.lt,by rw [xh];exact h1,by rw [xh];exact h2,by rw [xh];exact h3,h4⟩
theorem aN {P:Program}(t ty e:TypeId)(i:TypeInfo)(ht:P.underlying t=some (.slice e))(hi:P.info? e=some i)(b:Addr)(d a:Nat)(x:zf)(c:Nat)(hc:d<=a):
  (Builtin.append_ #[t,t] ty #[.slice (some b) d a,.slice x 0 c]).run P w=.ok (.slice (some b) d a) w:=by
 cases x<;>simp [Builtin.append_,run_underlying ht,sizeOf,typeInfo,hi,Builtin.lenOf,Builtin.firstCells,hc,storeCells,loadCells,loadCellsFrom]
theorem Zj {cN:Nat}{N:Addr}(h:yk w g k xs)(h2:zy w (some N) d cN ys)(hk:k<=1000000:=by omega)(hd:d<=1000000:=by omega):
  ∃(q c:Nat) (w':World),(Builtin.append_ #[32,32] 32 #[.slice (some ⟨g,0,none⟩) k k,.slice (some N) d cN]).run prog w=.ok (.slice (some ⟨q,0,none⟩) (k+d) c) w'/\(q=g\/w.heap.size<=q)/\k+d<=c/\c<=9223372036854775807/\yk w' q c ((xs++ys)++List.replicate (c - (k+d)) 0)/\Below w.heap.size w w':=by
 obtain⟨i0,A,I,C,J⟩:=info_parts mK;by_cases hd0:d=0
 ·subst hd0;obtain rfl:ys=[]:=qN h2.len;refine⟨g,k,w,aN _ _ _ i0 underlying32 A _ k k _ cN (qX _),Or.inl rfl,qX _,za,?_,qY _ _⟩;rw [xN,xI,List.replicate_zero,List.append_nil,List.append_nil];exact h
 ·have hv:zy w (some ⟨g,0,none⟩) k k xs:=y6.row h za;obtain⟨vs,v1,v2,v3,v4,v5⟩:=yh.cells hv;obtain⟨us,u1,u2,u3,u4,u5⟩:=yh.cells h2;have hr:=run_append_grow (P:=prog) (w:=w) 32 32 _ i0 _ underlying32 A I ⟨g,0,none⟩ k k vs (by rw [C];exact v1) v2 N d cN us (by rw [C];exact u1) u2 za za (by rw [J];exact growslice_fits za za);obtain⟨t,y⟩:∃c,grownCap w (k+d) k 60=c:=⟨_,rfl⟩;have D:k+d<=t:=y▸grownCap_ge w (k+d) k _;have E:t<=maxLen:=y▸grownCap_le_maxLen w (k+d) k _ (by unfold maxLen;omega);have G:t<=9223372036854775807:=by unfold maxLen at E;omega
  rw [y] at hr;obtain⟨Z,hZ⟩:∃Z,vs.toArray++us.toArray++Builtin.zeroCells (Value.agg #[.bool false,.slice none 0 0,.slice none 0 0]).cells (t - (k+d))=Z:=⟨_,rfl⟩;have hb:Below w.heap.size w (w.drew.alloc (.cells Z 60)):=((qY w.heap.size w).drew).alloc (qX _) _;rw [hZ] at hr;have a:zi (w.drew.alloc (.cells Z 60)) w.heap.size 60 Z:=zi.new w.drew _ _;have z:(Value.agg #[.bool false,.slice none 0 0,.slice none 0 0]).cells=#[.bool false,.slice none 0 0,.slice none 0 0]:=rfl;have K:(Builtin.zeroCells (Value.agg #[.bool false,.slice none 0 0,.slice none 0 0]).cells (t - (k+d))).size=(t - (k+d))*3:=by simp [Builtin.zeroCells,z]
  have a1:∀j,j<k*3->Z[j]?=vs[j]?:=λj hj=>by
   rw [<-hZ,Array.getElem?_append_left (by simp [v1];omega),Array.getElem?_append_left (by simp [v1];omega)];simp
  have a2:∀j,j<d*3->Z[k*3+j]?=us[j]?:=λj hj=>by
   rw [<-hZ,Array.getElem?_append_left (by simp [v1,u1];omega),Array.getElem?_append_right (by simp [v1])];simp [v1]
  have a3:∀j,j<(t - (k+d))*3->Z[(k+d)*3+j]?=some (#[Value.bool false,.slice none 0 0,.slice none 0 0][j%3]!):=λj hj=>by
   rw [<-hZ,Array.getElem?_append_right (by simp [v1,u1];omega)];simp only [Array.size_append,xH,v1,u1];rw [show(k+d)*3+j - (k*3+d*3)=j by omega];simp only [Builtin.zeroCells,z];simp [hj]
  refine⟨w.heap.size,t,_,hr,Or.inr (qX _),D,G,⟨by rw [qB,qB,QB,h.len,h2.len];omega,⟨Z,a,?_,?_⟩,λi x hi=>?_⟩,hb⟩
  ·intro u hu k9 z9 e9;rw [<-hZ] at hu;simp only [yI,XM] at hu;rcases hu with(hu|hu)|hu
   ·exact v4 u hu k9 z9 e9
   ·exact u4 u hu k9 z9 e9
   ·exact Vp u (jH zh hu) k9 z9 e9
  ·rw [<-hZ];simp only [Array.size_append,xH,v1,u1,K];omega
  ·by_cases hlt1:i<k
   ·rw [qO (by rw [qB,h.len];omega),qO (by rw [h.len];exact hlt1)] at hi;obtain⟨b,B,m,d',F,u,v,h1,h2,h3,h4⟩:=v5 _ x hi;refine⟨b,B,m,d',F,u,v,?_,?_,?_,h4.below hb⟩
    ·rw [a.cell,a1 _ za];exact h1
    ·rw [a.cell,a1 _ za];exact h2
    ·rw [a.cell,a1 _ za];exact h3
   ·by_cases hlt2:i<k+d
    ·rw [qO (by rw [qB,h.len,h2.len];exact hlt2),qD (by rw [h.len];omega),h.len] at hi;obtain⟨b,B,m,d',F,u,v,h1,h2,h3,h4⟩:=u5 _ x hi;refine⟨b,B,m,d',F,u,v,?_,?_,?_,h4.below hb⟩
     ·rw [a.cell,show i*3=k*3+(i - k)*3 by omega,a2 _ za];exact h1
     ·rw [a.cell,show i*3+1=k*3+((i - k)*3+1) by omega,a2 _ za];exact h2
     ·rw [a.cell,show i*3+2=k*3+((i - k)*3+2) by omega,a2 _ za];exact h3
    ·rw [qD (by rw [qB,h.len,h2.len];omega),qB,h.len,h2.len] at hi;have H:i - (k+d)<t - (k+d):=by
      have:=(List.getElem?_eq_some_iff.1 hi).1;simpa using this
     obtain rfl:(0:Rat)=x:=by
      rw [List.getElem?_replicate,if_pos H] at hi;injection hi
     have e0:((i - (k+d))*3)%3=0:=za;have e1:((i - (k+d))*3+1)%3=1:=za;have e2:((i - (k+d))*3+2)%3=2:=za;refine⟨false,none,0,0,none,0,0,?_,?_,?_,mo _⟩
     ·rw [a.cell,show i*3=(k+d)*3+(i - (k+d))*3 by omega,a3 _ za,e0];rfl
     ·rw [a.cell,show i*3+1=(k+d)*3+((i - (k+d))*3+1) by omega,a3 _ za,e1];rfl
     ·rw [a.cell,show i*3+2=(k+d)*3+((i - (k+d))*3+2) by omega,a3 _ za,e2];rfl
open Go Go.RowKit Go.Proofs.Tryz
set_option maxHeartbeats 16000000
set_option maxRecDepth 100000
section
variable {K:Nat}{xs:List Rat}{A:zf}{n c:Nat}{w:World}
theorem fF {t:Bool}(hz:ru xs=t)(hT:zu w)(ha:zy w A n c xs)(hx:zH K xs)(hn:n<=1073741824:=by omega)(hK:K<=67108864:=by omega):
  Calls prog 22 #[.slice A n c] w (λe w'=>e=.returned (.bool t)/\Below w.heap.size w w'):=by
 have y:=ha.len;have j:=zd y;have HZ:=zd hz;have m:zg (∀i,i<n->zp K (xs.getD i 0)):=λi hi=>hx.at_ za;have HA:=zd ha;have HT:=zm w (λw' hb=>hT.on hb);clear hT ha hx y hz;have hB:=qY w.heap.size w;have i0:(0:Int)<=(n:Int):=za;go_enter func22,ntmps22;go_wp2_with fail
 go_loopg [7] (n+1) (λg ix wr=>∃(k:Nat),k<=n/\n<g+k/\ix=.int .i64 k/\zg (ru (xs.take k)=false)/\Below w.heap.size w wr)
 case atStart=>exact⟨0,QE _,za,rfl,rfl,hB⟩
 case round=>
  clear hB;obtain⟨k,hkn,hg,rfl,z,hB⟩:=hrel;by_cases hlt:k<n
  ·obtain⟨ad,b1,B1,m1,d1,E1,u1,v1,rfl,-,u,v,x,hx⟩:=HA.o.get hB hlt;have C:decide ((k:Int)<(n:Int))=true:=decide_eq_true za;have i1:(0:Int)<=(k:Int):=za;have i2:(k:Int)<(n:Int):=za;obtain⟨st,d3,d4⟩:=zF wr 60 #[.bool b1,.slice B1 m1 d1,.slice E1 u1 v1];obtain⟨p0,p1,p2⟩:=d3.c3;have HX:=zd (hx.below st);have a:=zd (ze hB st);clear hx hB st d3 d4;obtain⟨s,hs⟩:∃s,vz (xs.getD k 0)=s:=⟨_,rfl⟩;have HS:=zd hs;have h:k<xs.length:=by have:=j.o;omega
   by_cases h0:(xs.getD k 0).num<0
   ·have D:decide (s<0)=true:=by
     rw [<-hs];unfold vz vA;rw [if_pos h0];rfl
    have HF:zg (true=t):=by
     show _=_;rw [<-HZ.o];unfold ru;refine(List.any_eq_true.2 ⟨xs.getD k 0,?_,decide_eq_true h0⟩).symm;rw [qQ,qZ h];exact xE h
    clear h0 hs h;go_wp2_with fail;(with_reducible refine(iR HS.o (HT.o _ a.o) HX.o (m.o k hlt) hK).mono ?_);rintro e w3 ⟨rfl,hb⟩;have d:=zd (ze a.o hb);clear hb u v x p0 p1 p2 HX a;go_wp2;go_ret;exact⟨by rw [<-HF.o];rfl,d.o⟩
   ·have D:decide (s<0)=false:=by
     rw [<-hs];unfold vz vA;rw [if_neg h0];split<;>rfl
    have B:zg (ru (xs.take (k+1))=false):=by
     show _=_;rw [Zk xs k h,z.o,decide_eq_false h0];rfl
    clear h0 hs h;go_wp2_with fail;(with_reducible refine(iR HS.o (HT.o _ a.o) HX.o (m.o k hlt) hK).mono ?_);rintro e w3 ⟨rfl,hb⟩;have d:=zd (ze a.o hb);clear hb u v x p0 p1 p2 HX a;go_wp2;go_roundg (n - k)
    case measure=>omega
    case rel=>exact⟨k+1,za,za,by go_num,B,d.o⟩
  ·have C:decide ((k:Int)<(n:Int))=false:=decide_eq_false za;have HF:zg (false=t):=by
    have:=j.o;show _=_;rw [<-HZ.o,<-z.o,qU za]
   have d:=zd hB;clear hB;go_wp2;go_ret;exact⟨by rw [<-HF.o];rfl,d.o⟩
end
