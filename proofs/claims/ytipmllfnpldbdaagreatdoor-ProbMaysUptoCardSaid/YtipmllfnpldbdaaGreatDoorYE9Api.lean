/- What this claim leans on. -/
import Derived.Test.YtipmllfnpldbdaaGreatDoorYMMat
set_option linter.unusedVariables false
set_option linter.unusedSimpArgs false
namespace Go.Proofs.YtipmllfnpldbdaaGreatDoor
open Go Go.RowKit Go.Proofs.Tryz
open Go.RowKit Go.Extern.Stop Go.Stop Go.Extern
set_option maxHeartbeats 16000000
variable {b:Nat}{w w':World}{A:zf}
def uD (w:World):Prop:=w.cell? ⟨0,0,none⟩=some (.iface 181 (.agg #[.pointer (some ⟨4,37,none⟩)]))
theorem uD.below (h:uD w)(hb:Below w.heap.size w w'):uD w':=zq hb h
def Er.is (er:Er):Bool:=match er with|.spot ..=>true|_=>false
theorem nL (o:Obj)(hb:b<=w.heap.size)(h:Below b w w')(hs:w.heap.size<=w'.heap.size):Below b w (w'.alloc o):=h.alloc (qC hb hs) o
theorem jP (hb:b<=w.heap.size)(o1 o2 o3 o4:Obj):Below b w ((((w.alloc o1).alloc o2).alloc o3).alloc o4):=
 nL _ hb (nL _ hb (nL _ hb (nL _ hb (qY _ w) (qX _)) zD) (by simp;omega)) (by simp;omega)
theorem jO (hb:b<=w.heap.size)(o1 o2 o3:Obj):Below b w (((w.alloc o1).alloc o2).alloc o3):=
 nL _ hb (nL _ hb (nL _ hb (qY _ w) (qX _)) zD) (by simp;omega)
def gQ (w:World)(g:Nat)(b:Bool)(v:Value)(e:Ending)(w':World):Prop:=e=.returned (.bool b)/\w'.cell? ⟨g,0,none⟩=some v/\Below g w w'
theorem fa {g:Nat}{t:TypeId}{x:Value}(hk:zi w g t #[x])(u:Value)(o1 o2 o3 o4:Obj):(((((w.alloc o1).alloc o2).alloc o3).alloc o4).setCell ⟨g,0,none⟩ u).cell? ⟨g,0,none⟩=some u/\Below g w (((((w.alloc o1).alloc o2).alloc o3).alloc o4).setCell ⟨g,0,none⟩ u):=by
 have a:=((((hk.alloc o1).alloc o2).alloc o3).alloc o4).set_ 0 u;exact⟨a.cell 0,(jP (yY hk.lt) o1 o2 o3 o4).setCell (qX _) u⟩
theorem jH (n:Int)(x:Value)(g:Nat)(w:World)(hg:uD w)(hk:zi w g 71 #[x]):
  Calls prog 91 #[.iface 71 (.int .i64 n),.iface 149 (.pointer (some ⟨g,0,none⟩))] w (gQ w g true (.int .i64 n)):=by
 refine(tg n ⟨g,0,none⟩ _ w hg (hk.cell 0) (hk.frozen 0)).mono ?_;rintro e w' ⟨rfl,rfl⟩;have h:=fa hk (.int .i64 n);exact⟨rfl,(h _ _ _ _).1,(h _ _ _ _).2⟩
theorem lf (n:Int)(s:ByteArray)(k:Int)(fb:Nat)(x:Value)(g:Nat)(w:World)(hg:uD w)(hs:mS w n s k fb)(hk:zi w g 71 #[x]):
  Calls prog 91 #[.iface 144 (.pointer (some ⟨fb,0,none⟩)),.iface 149 (.pointer (some ⟨g,0,none⟩))] w (gQ w g true (.int .i64 n)):=by
 refine(Vl n fb ⟨g,0,none⟩ _ w hg hs.2.2 (hk.cell 0) (hk.frozen 0)).mono ?_;rintro e w' ⟨rfl,rfl⟩;have h:=fa hk (.int .i64 n);exact⟨rfl,(h _ _ _ _).1,(h _ _ _ _).2⟩
theorem jG (fb:Nat)(x:Value)(g:Nat)(w:World)(hg:uD w)(hk:zi w g 144 #[x]):
  Calls prog 91 #[.iface 144 (.pointer (some ⟨fb,0,none⟩)),.iface 148 (.pointer (some ⟨g,0,none⟩))] w (gQ w g true (.pointer (some ⟨fb,0,none⟩))):=by
 refine(tf ⟨fb,0,none⟩ ⟨g,0,none⟩ _ w hg (hk.cell 0) (hk.frozen 0)).mono ?_;rintro e w' ⟨rfl,rfl⟩;have h:=fa hk (.pointer (some ⟨fb,0,none⟩));exact⟨rfl,(h _ _ _ _).1,(h _ _ _ _).2⟩
theorem lh (n:Int)(x:Value)(g:Nat)(w:World)(hg:uD w)(hk:zi w g 144 #[x]):
  Calls prog 91 #[.iface 71 (.int .i64 n),.iface 148 (.pointer (some ⟨g,0,none⟩))] w λe w'=>e=.returned (.bool false)/\Below g w w':=by
 refine(Xt n ⟨g,0,none⟩ _ w hg (hk.cell 0)).mono ?_;rintro e w' ⟨rfl,rfl⟩;exact⟨rfl,jO (yY hk.lt) _ _ _⟩
theorem Xn (er:Er)(v:Value)(w:World)(hE:uj w er v)(hg:uD w):
  Calls prog 60 #[v] w λe w'=>e=.returned (.int .i64 er.n)/\Below w.heap.size w w':=by
 obtain⟨b1,b2,b3⟩:=zG w 71 #[.int .i64 0];have d:=hg.below b1;have g:=hE.below b1;cases er with
 |no=>
   obtain rfl:=hE;have h0:=lZ;clear b2 b3 g hg d;go_enter func60,ntmps60;go_wp2;go_ret;exact⟨rfl,b1⟩
 |bare n=>
   obtain rfl:=hE;have h0:=nY 71 (.int .i64 n);have HA:=zd (jH n _ _ _ d b2);have a:=zd b1;clear b1 b2 b3 g hg d;go_enter func60,ntmps60;go_wp2_with fail;refine HA.o.mono ?_;rintro e w' ⟨rfl,hc,hb⟩;have hB:=a.o.trans hb;clear HA hb a;go_wp2;go_ret;exact⟨rfl,hB⟩
 |spot n s k=>
   obtain⟨fb,rfl,h1,h2,h3⟩:=hE;obtain⟨fb',e1,h⟩:=g;cases e1;have h0:=nY 144 (.pointer (some ⟨fb,0,none⟩));have HA:=zd (lf n s k fb _ _ _ d h b2);have a:=zd b1;clear b1 b2 b3 hg d h1 h2 h3 h;go_enter func60,ntmps60;go_wp2_with fail;refine HA.o.mono ?_;rintro e w' ⟨rfl,hc,hb⟩;have hB:=a.o.trans hb;clear HA hb a;go_wp2;go_ret;exact⟨rfl,hB⟩
theorem Vj (er:Er)(v:Value)(w:World)(hE:uj w er v)(hg:uD w):
  Calls prog 59 #[v] w λe w'=>e=.returned (.tuple #[.string er.s,.int .i64 er.k,.bool er.is])/\Below w.heap.size w w':=by
 obtain⟨b1,b2,b3⟩:=zG w 144 #[.pointer none];have d:=hg.below b1;have g:=hE.below b1;cases er with
 |no=>
   obtain rfl:=hE;have h0:=lZ;clear b2 b3 g hg d;go_enter func59,ntmps59;go_wp2;refine bodyPost_ret (v:=.tuple #[.string {data:=#[]},.int .i64 0,.bool false]) (by simp [results,results59,go_sem]) rfl ?_;exact⟨rfl,b1⟩
 |bare n=>
   obtain rfl:=hE;have h0:=nY 71 (.int .i64 n);have HA:=zd (lh n _ _ _ d b2);have a:=zd b1;clear b1 b2 b3 g hg d;go_enter func59,ntmps59;go_wp2_with fail;refine HA.o.mono ?_;rintro e w' ⟨rfl,hb⟩;have hB:=a.o.trans hb;clear HA hb a;go_wp2;refine bodyPost_ret (v:=.tuple #[.string {data:=#[]},.int .i64 0,.bool false]) (by simp [results,results59,go_sem]) rfl ?_;exact⟨rfl,hB⟩
 |spot n s k=>
   obtain⟨fb,rfl,h1,h2,h3⟩:=hE;have hl1:=qT w ⟨fb,0,none⟩ h1;have h0:=nY 144 (.pointer (some ⟨fb,0,none⟩));have HA:=zd (jG fb _ _ _ d b2);have a:=zd b1;have HS:zg (mS w n s k fb):=⟨h1,h2,h3⟩;clear b1 b2 b3 hg d h1 h2 h3 g;go_enter func59,ntmps59;go_wp2_with fail;refine HA.o.mono ?_;rintro e w' ⟨rfl,hc,hb⟩;have hB:=a.o.trans hb;obtain⟨c1,c2,c3⟩:=HS.o.below hB;clear HA hb a HS c3;go_wp2_with fail;go_region;go_wp2;refine bodyPost_ret (v:=.tuple #[.string s,.int .i64 k,.bool true]) (by simp [results,results59,go_sem]) rfl ?_;exact⟨rfl,hB.drew⟩
open Go Go.RowKit Go.Proofs.Tryz
set_option maxHeartbeats 16000000
def kw (w:World)(q:Addr)(p:PR):Prop:=∃(C:zf) (c:Nat) (b:Bool) (B:zf) (m d:Nat) (E:zf) (u v:Nat),
 w.cell? q=some (.slice C p.co.length c)/\w.cell? ⟨q.block,q.off+1,none⟩=some (.int .i64 p.kd)/\w.cell? ⟨q.block,q.off+2,none⟩=some (.bool b)/\w.cell? ⟨q.block,q.off+3,none⟩=some (.slice B m d)/\w.cell? ⟨q.block,q.off+4,none⟩=some (.slice E u v)/\
 zF w C p.co.length c p.co/\(∀ad,C=some ad->yv w ad.block 60)/\zu w p.rhs b B m d E u v
theorem kw.keep {w':World}{q:Addr}{p:PR}(h:kw w q p)(hb:Below w.heap.size w w'):kw w' q p:=by
 obtain⟨C,c,b,B,m,d,E,u,v,h0,h1,h2,h3,h4,h5,h6,h7⟩:=h;exact⟨C,c,b,B,m,d,E,u,v,zq hb h0,zq hb h1,zq hb h2,zq hb h3,zq hb h4,h5.keep hb,λad e=>(h6 ad e).below hb,h7.below hb⟩
structure re (w:World)(A:zf)(n:Nat)(ps:List PR):Prop where
 len:ps.length=n
 num:∀i p,ps[i]?=some p->∃ad:Addr,A=some ad/\ad.block<w.heap.size/\kw w (ad.add (i*5)) p
theorem re.keep {w':World}{n:Nat}{ps:List PR}(h:re w A n ps)(hb:Below w.heap.size w w'):re w' A n ps:=
 ⟨h.len,λi p hi=>by
  obtain⟨ad,e,h1,h2⟩:=h.num i p hi;exact⟨ad,e,qJ h1 hb.size,h2.keep hb⟩⟩
theorem re.nil (w:World)(A:zf):re w A 0 []:=⟨rfl,λi p hi=>by simp at hi⟩
def zN:PR:=⟨[],0,0⟩
theorem re.get {wr:World}{n:Nat}{ps:List PR}(h:re w A n ps)(hb:Below w.heap.size w wr){i:Nat}(hi:i<n):∃ad:Addr,A=some ad/\ad.block<w.heap.size/\kw wr (ad.add (i*5)) (ps.getD i zN):=by
 have hl:=h.len;obtain⟨ad,e,h1,h2⟩:=h.num i (ps.getD i zN) (by rw [qQ,qZ za];rfl);exact⟨ad,e,h1,h2.keep hb⟩
structure PB where
 cost:List Rat
 rows:List PR
structure ub (w:World)(D:zf)(k d:Nat)(A:zf)(n q:Nat)(P:PB):Prop where
 cost:zF w D k d P.cost
 rows:re w A n P.rows
 fits:n<=q
 most:q<=9223372036854775807
 ty:∀ad,D=some ad->yv w ad.block 60
theorem ub.keep {w':World}{D:zf}{k d:Nat}{n q:Nat}{P:PB}(h:ub w D k d A n q P)(hb:Below w.heap.size w w'):ub w' D k d A n q P:=
 ⟨h.cost.keep hb,h.rows.keep hb,h.fits,h.most,λad e=>(h.ty ad e).below hb⟩
def fq (K:Nat)(p:PR):Prop:=zI K p.co/\zt K p.rhs
def p6 (K:Nat)(ps:List PR):Prop:=∀p ∈ ps,fq K p
theorem p6.at_ {K i:Nat}{ps:List PR}(h:p6 K ps)(hi:i<ps.length):fq K (ps.getD i zN):=h _ (QN (by rw [qQ,qZ hi];rfl))
def jr (N:Nat)(ps:List PR):Prop:=∀p ∈ ps,p.co.length<=N
theorem jr.at_ {N i:Nat}{ps:List PR}(h:jr N ps)(hi:i<ps.length):(ps.getD i zN).co.length<=N:=h _ (QN (by rw [qQ,qZ hi];rfl))
open Go Go.RowKit Go.Proofs.Tryz
set_option maxHeartbeats 16000000
set_option maxRecDepth 100000
theorem VV {q n k c:Nat}{C:zf}{L zs:List Rat}(hv:yk w q n L)(hz:zF w C k c zs)(hk:k<=n)(dT sT ty:TypeId)(hu:prog.underlying dT=some (.slice 60)):
  ∃r w',(Builtin.copy_ #[dT,sT] ty #[.slice (some ⟨q,0,none⟩) n n,.slice C k c]).run prog w=.ok r w'/\yk w' q n (zs++L.drop k)/\∀(w0:World) (B0:Nat),B0<=q->Below B0 w0 w->Below B0 w0 w':=by
 obtain⟨i0,E,hz0,M,hz2⟩:=info_parts ki;obtain⟨cs,g,I,hsz⟩:=hv.blk;have G:=hz.len;cases C with
 |none=>
   have h0:k=0:=by
    cases k with
    |zero=>rfl
    |succ k=>
      obtain⟨ad,_,_,_,_,_,_,_,e,_⟩:=hz.num 0 (zs.getD 0 0) (nV za);cases e
   subst h0;obtain rfl:zs=[]:=qM G;refine⟨goInt 0,w,?_,hv,λ_ _ _ h=>h⟩;simp [Builtin.copy_,run_underlying hu,Builtin.lenOf,Builtin.firstCells,sizeOf,typeInfo,E,storeCells,loadCells,loadCellsFrom]
 |some a=>
   obtain⟨vs,v1,v2,v3,v4,v5⟩:=yf.cells hz;have y:Nat.min k n=k:=QO hk;have hr:=VR (P:=prog) w dT sT ty 60 q 0 n n a k c cs 60 vs hu (by rw [E];simp [M]) g (by rw [y];exact v1) v2 za v3;rw [y] at hr;obtain⟨new,A⟩:∃new,(cs.toList.take 0++vs++cs.toList.drop (0+vs.length)).toArray=new:=⟨_,rfl⟩;rw [A] at hr;have d:zi (w.setRow q new) q 60 new:=setRow_heap w q cs new _ _ g;have t:new.toList=vs++cs.toList.drop (k*3):=by
    rw [<-A,v1];simp
   have D:zY q w (w.setRow q new):=⟨zD,λp hp K=>by
    unfold World.cell?;simp only [setRow_other w q p.block new K]⟩
   have H:vB .u64 cs:=λv hv z e=>I v hv .u64 z e;have a1:∀j,k*3<=j->new[j]?=cs[j]?:=λj hj=>by
    rw [<-QP,t,qD za,v1,YY,QP];congr 1;omega
   have a2:∀j,j<k*3->new[j]?=vs[j]?:=λj hj=>by
    rw [<-QP,t,qO za]
   refine⟨_,_,hr,⟨by rw [qA,YX,hv.len];omega,⟨new,d,?_,?_⟩,λi x hi=>?_⟩,λw0 B0 hB hb=>hb.trans ⟨rfl,rfl,rfl,zD,λk hk=>setRow_other w q k new za⟩⟩
   ·intro u J k9 z9;rw [t] at J;rcases List.mem_append.1 J with h|h
    ·exact v4 u h k9 z9
    ·exact I u (YV h) k9 z9
   ·rw [<-XL,t,qA,v1,YX,XL];omega
   ·by_cases hlt:i<k
    ·rw [qO za] at hi;obtain⟨b,B,m,d',F,u,v,h1,h2,h3,h4⟩:=v5 _ x hi;refine⟨b,B,m,d',F,u,v,?_,?_,?_,nZ g H D h4⟩
     ·rw [d.cell,a2 _ za];exact h1
     ·rw [d.cell,a2 _ za];exact h2
     ·rw [d.cell,a2 _ za];exact h3
    ·rw [qD za,YY,G,show k+(i - k)=i by omega] at hi;obtain⟨b,B,m,d',F,u,v,h1,h2,h3,h4⟩:=hv.num i x hi;exact⟨b,B,m,d',F,u,v,by rw [d.cell,a1 _ za,<-g.cell];exact h1,by rw [d.cell,a1 _ za,<-g.cell];exact h2,by rw [d.cell,a1 _ za,<-g.cell];exact h3,nZ g H D h4⟩
