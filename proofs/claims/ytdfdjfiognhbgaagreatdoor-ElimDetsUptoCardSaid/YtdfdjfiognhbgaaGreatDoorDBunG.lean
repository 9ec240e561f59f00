/- What this claim leans on. -/
import Derived.Test.YtdfdjfiognhbgaaGreatDoorDVArgs
set_option linter.unusedVariables false
set_option linter.unusedSimpArgs false
namespace Go.Proofs.YtdfdjfiognhbgaaGreatDoor
open Go Go.RowKit Go.Proofs.Tryz
set_option maxHeartbeats 16000000
variable {L P:List Nat}{X Y b d g i k n x:Nat}
theorem RX (m:Nat):(Builtin.zeroCells #[Value.int .u64 0] m).toList=List.replicate m (Value.int .u64 0):=by
 refine jQ (by simp [Builtin.zeroCells]) (λi h1 h2=>?_);simp [Builtin.zeroCells,xT]
theorem Wp {ty:TypeId}{g cap n:Nat}:∀(m k:Nat) (L:List Nat) (W:World),zF W ty g cap n L->k+m<=n->
  zF (W.setCells g k (List.replicate m (Value.int .u64 0))) ty g cap n (L.take k++List.replicate m 0++L.drop (k+m))/\yu g W (W.setCells g k (List.replicate m (Value.int .u64 0)))
 |0,k,L,W,h,hk=>by
   refine⟨?_,yu.refl g W⟩;simp only [List.replicate_zero,List.append_nil,xN,YO,World.setCells];exact h
 |m+1,k,L,W,h,hk=>by
   have hl:=h.len;obtain⟨h1,h2⟩:=Wp m (k+1) (L.set k 0) (W.setCell ⟨g,k,none⟩ (.int .u64 ((0:Nat):Int))) (h.set_ k 0 zb) zb;rw [kj _ _ _ zb] at h1;have e:(L.set k 0).drop (k+1+m)=L.drop (k+(m+1)):=by
    rw [<-List.drop_drop,iJ,List.drop_drop];congr 1;omega
   rw [e] at h1;refine⟨?_,(yu.set_ (yu.refl g W) k _).trans h2⟩;rw [List.replicate_succ (a:=(0:Nat)),show L.take k++0::List.replicate m 0=L.take k++[0]++List.replicate m 0 by simp];exact h1
theorem SK {ty:TypeId}{cap k m c:Nat}{A C:List Nat}{W:World}(h:zF W ty g cap n (A++C))(hA:A.length=k)(hC:C.length=m)(hm:0<m):
  ∃W2,(∀t:TypeId,(Builtin.clear_ #[35] t #[.slice (some ⟨g,k,none⟩) m c]).run prog W=.ok (.tuple #[]) W2)/\zF W2 ty g cap n (A++List.replicate m 0)/\yu g W W2:=by
 obtain⟨i0,d,i,hz1,hz2⟩:=info_parts ol;have hl:=h.len;rw [QV,hA,hC] at hl;obtain⟨h1,h2⟩:=Wp m k (A++C) W h zb;rw [xG (by rw [QV];omega),List.append_nil,<-hA,jX,hA] at h1;have a:=run_storeCells_cells (P:=prog) g k (List.replicate m (Value.int .u64 0)) 0 W
  (λj hj=>by rw [yE] at hj;rw [xN,h.cell (k+j) zb];rfl) (λj _=>h.frozen _) (λv hv=>by rw [List.eq_of_mem_replicate hv];rfl)
 refine⟨_,λt=>?_,h1,h2⟩;obtain⟨m,rfl⟩:∃r,m=r+1:=⟨m - 1,zb⟩;have hz:=RX (m+1);rw [xN] at a;simp [Builtin.clear_,run_underlying underlying35,zeroValue,typeInfo,d,i,hz,a,Value.cells]
theorem RC {c:Nat}{A:ze}(t:TypeId)(W:World):(Builtin.clear_ #[35] t #[.slice A 0 c]).run prog W=.ok (.tuple #[]) W:=by
 cases A<;>simp [Builtin.clear_,run_underlying underlying35]
set_option maxRecDepth 100000
structure vI (P L:List Nat)(k:Nat)(q:List Nat)(b:Nat):Prop where
 len:q.length=P.length
 dgs:zD 18446744073709551616 q
 carry:b<=1
 val:dv 18446744073709551616 (q.take k)+dv 18446744073709551616 (L.take k)=dv 18446744073709551616 (P.take k)+18446744073709551616^k*b
 rest:∀i,k<=i->q.getD i 0=P.getD i 0
theorem vI.start (P L:List Nat)(h:zD 18446744073709551616 P):vI P L 0 P 0:=⟨rfl,h,zb,by simp [dv],λ_ _=>rfl⟩
theorem nj {q:List Nat}(h:zD b q)(hd:d<b):zD b (q.set k d):=λx hx=>by
 rcases XQ hx with h1|h1
 ·exact h x h1
 ·rw [h1];exact hd
theorem Yh {q:List Nat}(h:k<q.length):(q.set k d).getD k 0=d:=by
 simp [qQ,h]
theorem T1 {q:List Nat}(h:k≠i):(q.set k d).getD i 0=q.getD i 0:=by
 simp [qQ,h]
theorem T2 (q:List Nat)(k d:Nat):(q.set k d).take k=q.take k:=List.take_set_of_le (qY k)
theorem vI.step {q:List Nat}{d b':Nat}(h:vI P L k q b)(hk:k<P.length)(hd:d<18446744073709551616)(hb:b'<=1)(hs:d+L.getD k 0+b=q.getD k 0+18446744073709551616*b'):vI P L (k+1) (q.set k d) b':=by
 refine⟨by simpa using h.len,nj h.dgs hd,hb,?_,λi hi=>by rw [T1 zb];exact h.rest i zb⟩;have hv:=h.val;have hr:=h.rest k (qY k);rw [vT,vT,vT,T2,Yh (by rw [h.len];exact hk),qP];rw [hr] at hs;obtain⟨B,hB⟩:∃B,18446744073709551616^k=B:=⟨_,rfl⟩;rw [hB] at hv⊢;have e:B*d+B*L.getD k 0+B*b=B*P.getD k 0+B*18446744073709551616*b':=by
  rw [<-qC,<-qC,hs,qC,qG]
 omega
theorem vI.done {L q:List Nat}(h:vI P L P.length q b)(hL:L.length=P.length)(hle:dv 18446744073709551616 L<=dv 18446744073709551616 P):dv 18446744073709551616 q=dv 18446744073709551616 P - dv 18446744073709551616 L:=by
 have hv:=h.val;have hq:=vg h.dgs;rw [h.len] at hq;rw [qU (by rw [h.len];exact qY _),qU zb,qU (qY _)] at hv;rcases (show b=0\/b=1 by have:=h.carry;omega) with rfl|rfl
 ·omega
 ·omega
def sJ (w:World)(ty:TypeId)(g cap n X:Nat)(e:Ending)(w':World):Prop:=
 ∃(v:Value) (L:List Nat),e=.returned v/\zF w' ty g cap n L/\zD 18446744073709551616 L/\dv 18446744073709551616 L=X/\yu g w w'
theorem SN (a b c:Nat)(ha:a<18446744073709551616)(hb:b<18446744073709551616)(hc:c<=1):∃d c':Nat,d<18446744073709551616/\c'<=1/\d+b+c=a+18446744073709551616*c'/\
  ∀w:World,(callFunc 207 #[.int .u64 a,.int .u64 b,.int .u64 c]).run prog w=.ok (.value (.tuple #[.int .u64 (d:Int),.int .u64 (c':Int)])) w:=by
 obtain⟨d,c',e1,e2,h1,h2,h3⟩:=Zv ha hb hc;refine⟨d,c',h1,h2,h3,λw=>?_⟩;have h:=lO a b c ⟨zb,zb⟩ ⟨zb,zb⟩ zb zb w;rw [e1,e2] at h;exact h
theorem Yr (ty o:TypeId)(g g2 c1 c2 n:Nat)(L1 L2:List Nat)(w:World)(hR:zF w ty g c1 n L1)(h2:zF w o g2 c2 n L2)(E:g2≠g)(c:zD 18446744073709551616 L1)(k:zD 18446744073709551616 L2)
  (m:dv 18446744073709551616 L2<=dv 18446744073709551616 L1) (hn:n<=1099511627776):
  Calls prog 197 #[.slice (some ⟨g,0,none⟩) n c1,.slice (some ⟨g2,0,none⟩) n c2] w (sJ w ty g c1 n (dv 18446744073709551616 L1 - dv 18446744073709551616 L2)):=by
 have j:=za hR.len;have v:=za h2.len;have s:=za k;have y:=za m;have HI:=za (vI.start L1 L2 c);have HO:=yu.refl g w;clear c k m;go_enter func197,ntmps197;go_wp2_with fail
 go_loopg [4,9] (n+1) (λgg bo ix wr=>∃(i b:Nat) (q:List Nat),i<=n/\n<gg+i/\ix=.int .i64 i/\bo=.int .u64 b/\zd (vI L1 L2 i q b)/\zF wr ty g c1 n q/\zF wr o g2 c2 n L2/\yu g w wr)
 case atStart=>exact⟨0,0,L1,qN _,zb,rfl,rfl,HI,hR,h2,HO⟩
 case round=>
  clear hR HI HO h2;obtain⟨i,bb,q,hin,hgg,rfl,rfl,HI,hR,h2,hO⟩:=hrel;have hI:=HI.o;by_cases hlt:i<n
  ·have k1:=hR.cell i hlt;have k2:=h2.cell i hlt;have k3:=hR.frozen i;obtain⟨d,b',c,C,hx,hS⟩:=SN (q.getD i 0) (L2.getD i 0) bb (hI.dgs.getD zg i) (s.o.getD zg i) hI.carry;have B:=za (hI.step (by rw [j.o];exact hlt) c C hx);have A:=za (hR.set_ i d hlt);have z:=za (hO.set_ i (.int .u64 (d:Int)));have u:=za (h2.far (p:=⟨g,i,none⟩) E (.int .u64 (d:Int)));obtain⟨a,ha⟩:∃b,q.getD i 0=b:=⟨_,rfl⟩;obtain⟨b,hb⟩:∃b,L2.getD i 0=b:=⟨_,rfl⟩;rw [ha] at k1 hS;rw [hb] at k2 hS;have i1:(0:Int)<=(i:Int):=zb;have i2:(i:Int)<(n:Int):=zb;clear ha hb hx hI HI hR h2 hO;go_wp2;go_roundg (n - i)
   case measure=>omega
   case rel=>exact⟨i+1,b',_,zb,zb,by go_num,rfl,B,A.o,u.o,z.o⟩
  ·have D:i=n:=zb;subst D;have HV:zd (dv 18446744073709551616 q=dv 18446744073709551616 L1 - dv 18446744073709551616 L2):=by
    have e:=j.o;rw [<-e] at hI;exact hI.done (by rw [v.o,e]) y.o
   have t:=za hI.dgs;clear hI HI;go_wp2
   go_end0
   exact⟨_,q,rfl,hR,t.o,HV.o,hO⟩
theorem cT {s:Nat}(h:L.getD s 0=0):dv 18446744073709551616 (L.take (s+1))=dv 18446744073709551616 (L.take s):=by
 rw [vT,h,yZ,xN]
theorem ST {a:Nat}(ha:a<18446744073709551616)(hb:b<18446744073709551616)(h:¬(a=0/\b=0)):∃c:Nat,bits .or .u64 (a:Int) (b:Int)=(c:Int)/\c≠0:=by
 refine⟨a|||b,bits_or_u64_nat _ _ ha hb,λe=>h ?_⟩;exact Nat.or_eq_zero_iff.1 e
def sI (w:World)(g1 g2 c1 c2 n:Nat)(L1 L2:List Nat)(e:Ending)(w':World):Prop:=
 ∃ s : Nat,1 ≤ s ∧ s ≤ n ∧ e = .returned (.tuple #[.slice (some ⟨g1,0,none⟩) s c1,.slice (some ⟨g2,0,none⟩) s c2]) ∧
  dv 18446744073709551616 (L1.take s)=dv 18446744073709551616 L1/\dv 18446744073709551616 (L2.take s)=dv 18446744073709551616 L2/\Below w.heap.size w w'
theorem Sl (ty t:TypeId)(g1 g2 c1 c2 n:Nat)(L1 L2:List Nat)(w:World)(h1:zF w ty g1 c1 n L1)(h2:zF w t g2 c2 n L2)(m:zD 18446744073709551616 L1)(o:zD 18446744073709551616 L2)
  (hx:dv 18446744073709551616 L1≠0) (hn:n<=1099511627776):
  Calls prog 195 #[.slice (some ⟨g1,0,none⟩) n c1,.slice (some ⟨g2,0,none⟩) n c2] w (sI w g1 g2 c1 c2 n L1 L2):=by
 have hn0:1<=n:=by
  rcases QT n with e|e
  ·have:=h1.len;rw [QY (this.trans e)] at hx;exact absurd rfl hx
  ·exact e
 have hr1:=h1.room.1;have hr2:=h2.room.1;have hb:=qZ w.heap.size w;have HX:=za hx;have v:=za m;have y:=za o;have d:zd (dv 18446744073709551616 (L1.take n)=dv 18446744073709551616 L1):=by show _=_;rw [qU (by rw [h1.len];exact qY _)]
 have g:zd (dv 18446744073709551616 (L2.take n)=dv 18446744073709551616 L2):=by show _=_;rw [qU (by rw [h2.len];exact qY _)]
 clear hx m o;go_enter func195,ntmps195;go_wp2_with fail
 go_loopg [6] (n+1) (λgg u wr=>∃s:Nat,s+1<=n/\s<gg/\u=.int .i64 ((s:Int)+1)/\zd (dv 18446744073709551616 (L1.take (s+1))=dv 18446744073709551616 L1)/\zd (dv 18446744073709551616 (L2.take (s+1))=dv 18446744073709551616 L2)/\zF wr ty g1 c1 n L1/\zF wr t g2 c2 n L2/\Below w.heap.size w wr)
 case atStart=>
  obtain⟨s,rfl⟩:∃s,n=s+1:=⟨n - 1,zb⟩;exact⟨s,zb,zb,zE,d,g,h1,h2,hb⟩
 case round=>
  clear d g h1 h2 hb;obtain⟨s,hs,hgg,rfl,d,g,h1,h2,hb⟩:=hrel;have k1:=h1.cell s zb;have k2:=h2.cell s zb;have i1:(0:Int)<=(s:Int):=zb;have i2:(s:Int)<(n:Int):=zb;have i3:(s:Int)+1 - 1=(s:Int):=zb;have i4:IntKind.i64.wrap (s:Int)=(s:Int):=QO _ zb;have i:=v.o.getD zg s;have j:=y.o.getD zg s;by_cases hz:L1.getD s 0=0/\L2.getD s 0=0
  ·obtain⟨z1,z2⟩:=hz;have hs0:s≠0:=λe=>by
    subst e;have h:=d.o;rw [cT z1] at h;exact HX.o (by rw [<-h];rfl)
   obtain⟨s,rfl⟩:∃r,s=r+1:=⟨s - 1,zb⟩;have d:zd (dv 18446744073709551616 (L1.take (s+1))=dv 18446744073709551616 L1):=(cT z1).symm.trans d.o;have g:zd (dv 18446744073709551616 (L2.take (s+1))=dv 18446744073709551616 L2):=(cT z2).symm.trans g.o;rw [z1] at k1;rw [z2] at k2;have ho:bits .or .u64 ((0:Nat):Int) ((0:Nat):Int)=0:=zg;clear z1 z2 i j;go_wp2_with fail;go_region;go_wp2;go_roundg (s+1)
   case measure=>omega
   case rel=>exact⟨s,zb,zb,by go_num,d,g,h1.drew,h2.drew,hb.drew⟩
  ·obtain⟨c,ho,hc0⟩:=ST i j hz;obtain⟨a,ha⟩:∃a,L1.getD s 0=a:=⟨_,rfl⟩;obtain⟨b,k⟩:∃b,L2.getD s 0=b:=⟨_,rfl⟩;rw [ha] at k1 ho;rw [k] at k2 ho;have hcz:((c:Int)==0)=false:=by simp;omega
   have j1:(s:Int)+1<=(c1:Int):=zb;have j2:(s:Int)+1<=(c2:Int):=zb;have j3:(0:Int)<=(s:Int)+1:=zb;have j4:((s:Int)+1).toNat=s+1:=zb;clear ha k hz i j;go_wp2_with fail;go_region;go_wp2_with fail;go_region;go_wp2
   go_ret2
   exact⟨s+1,zb,hs,by first|rfl|simp,d.o,g.o,hb.drew.drew⟩
theorem Pg {y:Nat}(h:Nat.gcd x y=g):Nat.gcd y (x%y)=g:=by
 rw [<-h,XC x y,Nat.gcd_rec y x,XC]
theorem PK (h:Nat.gcd x 0=g):x=g:=by rw [<-h,Nat.gcd_zero_right]
theorem Vc (x y:Nat)(w:World)(hx:x<18446744073709551616)(hy:y<18446744073709551616):
  Calls prog 176 #[.int .u64 x,.int .u64 y] w λe w'=>e=.returned (.int .u64 (Nat.gcd x y:Nat))/\Below w.heap.size w w':=by
 have hB:=qZ w.heap.size w;obtain⟨g,hg⟩:∃g,Nat.gcd x y=g:=⟨_,rfl⟩;rw [hg];have HG:=za hg;clear hg;go_enter func176,ntmps176;go_wp2_with fail
 go_loopg [0,1] (y+1) (λgg s0 s1 wr=>∃(a b:Nat),a<18446744073709551616/\b<18446744073709551616/\b<gg/\s0=.int .u64 a/\s1=.int .u64 b/\zd (Nat.gcd a b=g)/\Below w.heap.size w wr)
 case atStart=>exact⟨x,y,hx,hy,zb,rfl,rfl,HG,hB⟩
 case round=>
  clear hx hy HG hB;obtain⟨a,b,ha,hb,hgg,rfl,rfl,HG,hB⟩:=hrel;rcases QT b with rfl|hpos
  ·have HE:=za (PK HG.o);clear HG;go_wp2;go_ret;exact⟨by rw [HE.o];rfl,hB⟩
  ·have HE:=za (Pg HG.o);have hz:((b:Int)==0)=false:=by simp;omega
   have hz2:((b:Int) !=0)=true:=by simp;omega
   have hz3:¬((b:Int)=0):=zb;have hm:(a:Int).tmod b=((a%b:Nat):Int):=by rw [xL zb];exact(Int.natCast_emod _ _).symm
   have c:a%b<b:=QH _ hpos;have d:(a:Int)%b=((a%b:Nat):Int):=(Int.natCast_emod _ _).symm;obtain⟨r,hr⟩:∃r,a%b=r:=⟨_,rfl⟩;rw [hr] at hm c HE d;clear HG hr;go_wp2_with fail;go_region;go_wp2;go_roundg b
   case measure=>omega
   case rel=>exact⟨b,r,hb,zb,c,rfl,by go_num,HE,by first|exact hB|exact hB.drew⟩
theorem qi {w w':World}(h:yu g w w'):yu g w w'.drew:=⟨h.os,h.tape,h.output,h.size,h.block⟩
def vZ (Y:Nat)(L:List Nat)(i:Nat):List Nat:=vQ Y i++L.drop i
theorem Q6 (h:i<=L.length):(vZ Y L i).length=L.length:=by simp [vZ,lR];omega
theorem W9 (h:i<=k):(vZ Y L i).getD k 0=L.getD k 0:=by
 obtain⟨j,rfl⟩:∃j,k=i+j:=⟨k - i,zb⟩;simp only [vZ,qQ];rw [QK (by rw [lR];omega),lR,yH,YP]
theorem Q7 (h:i<L.length):(vZ Y L i).set i d=vQ Y i++d::L.drop (i+1):=by
 unfold vZ;rw [YR _ _ (by rw [lR];omega),lR,yJ,yC h,qD]
theorem Q8 {e:Nat}(h:i<L.length):((vZ Y L i).set i d).set i e=(vZ Y L i).set i e:=by simp [List.set_set]
theorem Xx (h:i<L.length):(vZ Y L i).set i (wd Y i)=vZ Y L (i+1):=by
 rw [Q7 h];unfold vZ;rw [cW,xJ];rfl
theorem Si (Y:Nat)(L:List Nat):vZ Y L 0=L:=by simp [vZ,vQ]
theorem Pa {q r:Nat}(hr:r<64):wd (X / 2^(64*q+r)) i=wd X (q+i) / 2^r+2^(64 - r)*(wd X (q+i+1)%2^r):=by
 have h:=pP X (64*q+r) i;rw [show(64*q+r) / 64=q from by omega,show(64*q+r)%64=r from by omega] at h;exact h
theorem Q9 {q r:Nat}(hX:X<18446744073709551616^n)(hq:q<=n):(dg 18446744073709551616 (X / 2^(64*q+r))).length<=n - q:=by
 refine wy zg _ _ ?_;have e:(18446744073709551616:Nat)^q=2^(64*q):=by rw [show(18446744073709551616:Nat)=2^64 from rfl,<-yG]
 rw [xX,<-xD,<-e];refine QU (QS _ _) ((QP (XH zg)).2 ?_);rw [<-xX,Nat.sub_add_cancel hq];exact hX
def kF (w:World)(ty:TypeId)(g cap n X:Nat)(e:Ending)(w':World):Prop:=
 (X=0/\e=.returned (.bool false)/\w=w')\/(X≠0/\∃L,e=.returned (.bool true)/\zF w' ty g cap n L/\zD 18446744073709551616 L/\dv 18446744073709551616 L=X / 2^wg X/\yu g w w')
theorem Vz (ty:TypeId)(g cap n:Nat)(L:List Nat)(w:World)(hR:zF w ty g cap n L)(hd:zD 18446744073709551616 L)(hn:n<=1099511627776)(hT:zu w):
  Calls prog 198 #[.slice (some ⟨g,0,none⟩) n cap] w (kF w ty g cap n (dv 18446744073709551616 L)):=by
 have hl:=hR.len;have hX:=vg hd;rw [hl] at hX;have HW:∀k,L.getD k 0=wd (dv 18446744073709551616 L) k:=λk=>kh zg hd k;obtain⟨X,S⟩:∃X,dv 18446744073709551616 L=X:=⟨_,rfl⟩;rw [S] at hX HW⊢;have HX:=za hX;have I:=za HW;have HL:=za hl;have hnc:=hR.room.1;have HT:=za hT;have HR:=za hR;clear hX HW hl S hT hR;go_enter func198,ntmps198;go_wp2_with fail
 go_loop [3] (λix=>∃k:Nat,k<=n/\ix=.int .i64 k/\zd (X%18446744073709551616^k=0)) (λix=>n - (intOf ix).toNat)
 case atStart=>exact⟨0,qN _,rfl,by show _=_;simp [xT]⟩
 case round=>
  obtain⟨k,hk,rfl,H⟩:=hrel;have i1:(0:Int)<=(k:Int):=zb;by_cases hlt:k<n
  ·have F:=HR.o.cell k hlt;rw [I.o] at F;have i2:(k:Int)<(n:Int):=zb;by_cases hz:wd X k=0
   ·have HN:zd (X%18446744073709551616^(k+1)=0):=by
     show _=_;rw [vO 18446744073709551616 X k,H.o,xA];unfold wd at hz;rw [hz,yZ]
    rw [hz] at F;clear hz;go_wp2
    go_round
    case rel=>exact⟨k+1,zb,by go_num,HN⟩
    case measure=>simp [intOf];omega
   ·have HV:=za (Td H.o hz);have U:=wF X k;have WT:=Tc ((wd X k:Nat):Int) ⟨zb,zb⟩ w HT.o;have et:jW ((wd X k:Nat):Int)=((Lib.ctz 64 (wd X k):Nat):Int):=by unfold jW;simp
    have D:Lib.ctz 64 (wd X k)<64:=by
     obtain⟨m,hm,hc⟩:=Lib.ctzFrom_spec 64 (wd X k) zb (by simpa using U);have ec:Lib.ctz 64 (wd X k)=Lib.ctzFrom 64 (wd X k):=by unfold Lib.ctz;rw [if_neg hz]
     rw [ec];rcases xY (Lib.ctzFrom 64 (wd X k)) 64 with h|h
     ·exact h
     ·have h2:2^64<=2^Lib.ctzFrom 64 (wd X k):=qV zg h;have h3:2^Lib.ctzFrom 64 (wd X k)<=wd X k:=by
       conv=>rhs;rw [hm]
       exact Nat.le_mul_of_pos_right _ zb
      omega
    rw [et] at WT;obtain⟨r,hr⟩:∃t,Lib.ctz 64 (wd X k)=t:=⟨_,rfl⟩;rw [hr] at WT HV D;obtain⟨a,ha⟩:∃a,wd X k=a:=⟨_,rfl⟩;rw [ha] at F WT hz;have R:=za WT;have af:((a:Int)==0)=false:=beq_eq_false_iff_ne.2 zb;have ag:((a:Int) !=0)=true:=by simp;omega
    have K:((k:Int)==(n:Int))=false:=beq_eq_false_iff_ne.2 zb;have J:zd (X≠0):=λe=>by
     rw [e] at ha;have:(0:Nat)=a:=by rw [<-ha];unfold wd;simp
     exact hz this.symm
    obtain⟨Y,hY⟩:∃Y,X / 2^(64*k+r)=Y:=⟨_,rfl⟩;have ac:zd (∀i,wd Y i=wd X (k+i) / 2^r+2^(64 - r)*(wd X (k+i+1)%2^r)):=λi=>by rw [<-hY];exact Pa D
    have O:zd ((dg 18446744073709551616 Y).length<=n - k):=by show _;rw [<-hY];exact Q9 HX.o hk
    have ab:zd (Y=X / 2^wg X):=by show _=_;rw [<-hY,HV.o]
    obtain⟨N,hN⟩:∃N,n - k=N:=⟨_,rfl⟩;obtain⟨C,hC⟩:∃N,cap - k=N:=⟨_,rfl⟩;rw [hN] at O;have V:=za (show N+k=n by omega);have hck:¬(cap=k):=zb;have hNp:0<N:=zb;have i3:(k:Int)<=(n:Int):=zb;clear WT hr ha et U hY HV H;go_wp2_with fail;refine R.o.mono ?_;rintro e w' ⟨rfl,rfl⟩;go_wp2_with fail;have Q:zF w ty g cap n (vZ Y L 0):=by rw [Si];exact HR.o
    have P:=yu.refl g w;clear af ag K F hz R
    go_loopg [34] (N+1) (λgg ix wr=>∃i:Nat,i<=N/\N<gg+i/\ix=.int .i64 i/\zF wr ty g cap n (vZ Y L i)/\yu g w wr)
    case atStart=>exact⟨0,zb,zb,rfl,Q,P⟩
    case round=>
     clear Q P;obtain⟨i,hi,hgg,rfl,hR,hO⟩:=hrel;have hNn:=V.o;have j0:(0:Int)<=(i:Int):=zb;by_cases T:i<N
     ·have z:i<n:=zb;have hw:=ac.o i;have G:=wF X (k+i);have M:=wF X (k+i+1);have k1:=hR.cell (k+i) zb;rw [W9 zb,I.o] at k1;have k2:=hR.cell i z;have k3:=hR.frozen i;have j1:(i:Int)<(N:Int):=zb;have j2:(i:Int)<(n:Int):=zb;have j3:IntKind.i64.wrap (64 - (r:Int))=64 - (r:Int):=QO _ zb;have j4:IntKind.i64.wrap ((i:Int)+1)=(i:Int)+1:=QO _ zb;obtain⟨b,hb⟩:∃b,wd X (k+i+1)=b:=⟨_,rfl⟩;obtain⟨v,hv⟩:∃b,wd X (k+i)=b:=⟨_,rfl⟩;obtain⟨u,hu⟩:∃b,(vZ Y L i).getD i 0=b:=⟨_,rfl⟩;rw [hv] at k1 hw G;rw [hb] at hw M;rw [hu] at k2;have e1:(v:Int) / 2^r=((v / 2^r:Nat):Int):=zE;have d:=hR.set_ i (v / 2^r) z;rw [<-e1] at d;have E:=hO.set_ i (.int .u64 ((v:Int) / 2^r));have hll:=HL.o;by_cases hi1:i+1<N
      ·have m1:=d.cell i z;rw [Yh (by rw [Q6 zb];omega),<-e1] at m1;have m2:=hR.cell (k+(i+1)) zb;rw [W9 zb,I.o,show wd X (k+(i+1))=b from by rw [<-xE];exact hb] at m2;have m3:=d.frozen i;have j5:(i:Int)+1<(N:Int):=zb;have j6:((i:Int)+1).toNat=i+1:=zb;have j7:(0:Int)<=(i:Int)+1:=zb;have hc:=V2 (b:=b) G D;have y:=d.drew.set_ i (v / 2^r+2^(64 - r)*(b%2^r)) z;rw [<-hc,Q8 zb,<-hw,Xx zb] at y;have aa:=za y;have B:=(qi E).set_ i (.int .u64 (bits .or .u64 ((v:Int) / 2^r) (IntKind.u64.wrap ((b:Int)*2^(64 - r)))));have Z:=za B;clear y B d E hR hO hc e1 hw hb hv hu G M;go_wp2_with fail;go_region;go_wp2;go_roundg (N - i)
       case measure=>omega
       case rel=>exact⟨i+1,zb,zb,by go_num,aa.o,Z.o⟩
      ·have ad:b=0:=by
        rw [<-hb,show k+i+1=n from by omega];unfold wd;rw [QL HX.o]
       rw [ad,Nat.zero_mod,yZ,xN] at hw;rw [<-hw,Xx zb] at d;have s:=za d;have o:=za E;have j5:¬((i:Int)+1<(N:Int)):=zb;clear d E hR hO e1 hw hb hv hu G M;go_wp2;go_roundg (N - i)
       case measure=>omega
       case rel=>exact⟨i+1,zb,zb,by go_num,s.o,o.o⟩
     ·have T:i=N:=zb;subst T;have HF:∀L',L'=vQ Y i++List.replicate k 0->zd (zD 18446744073709551616 L'/\dv 18446744073709551616 L'=X / 2^wg X):=λL' e=>by
       subst e;refine⟨(Xg _ _).append (zD.zeros zg _),?_⟩;rw [uO,jB,yZ,xN,Xf O.o,ab.o]
      have j:=za (HF _ rfl);clear HF;have q1:n - i=k:=zb;have q2:(i:Int)<=(n:Int):=zb;rcases QT k with hk0|hkp
      ·subst hk0;have z:i=n:=zb;subst z;have s:zd (zF wr ty g cap i (vQ Y i++List.replicate 0 0)):=by
        show zF _ _ _ _ _ _;rw [show vZ Y L i=vQ Y i++List.replicate 0 0 from by unfold vZ;rw [xG (by rw [HL.o];exact qY _)];rfl] at hR;exact hR
       have o:=za hO;have ae:∀(t:TypeId) (A:ze) (c:Nat),(Builtin.clear_ #[35] t #[.slice A 0 c]).run prog wr=.ok (.tuple #[]) wr:=λt A c=>RC t wr;clear hR hO;by_cases hce:cap=i
       ·go_wp2;go_ret;exact .inr ⟨J.o,_,rfl,s.o,j.o.o.1,j.o.o.2,o.o⟩
       ·go_wp2;go_ret;exact .inr ⟨J.o,_,rfl,s.o,j.o.o.1,j.o.o.2,o.o⟩
      ·have hci:¬(cap=i):=zb;obtain⟨W2,ae,y,B⟩:=SK (c:=cap - i) (k:=i) (m:=k) (A:=vQ Y i) (C:=L.drop i) hR (lR _ _) (by rw [XX,HL.o];omega) hkp;have s:=za y;have o:=za (hO.trans B);clear hR hO y B;go_wp2;go_ret;exact .inr ⟨J.o,_,rfl,s.o,j.o.o.1,j.o.o.2,o.o⟩
  ·have K:k=n:=zb;subst K;have HZ:zd (X=0):=by
    show _=_;have h2:=H.o;rw [qO HX.o] at h2;exact h2
   go_wp2;go_ret;exact .inl ⟨HZ.o,rfl,rfl⟩
