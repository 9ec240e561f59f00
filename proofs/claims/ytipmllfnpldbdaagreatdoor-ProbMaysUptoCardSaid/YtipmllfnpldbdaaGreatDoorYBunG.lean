/- What this claim leans on. -/
import Derived.Test.YtipmllfnpldbdaaGreatDoorYNTold
import Derived.Laws.IdiomCopy
set_option linter.unusedVariables false
set_option linter.unusedSimpArgs false
namespace Go.Proofs.YtipmllfnpldbdaaGreatDoor
open Go Go.RowKit Go.Proofs.Tryz
set_option maxHeartbeats 16000000
variable {L P:List Nat}{X Y a b d g i x:Nat}
theorem Vu (m:Nat):(Builtin.zeroCells #[Value.int .u64 0] m).toList=List.replicate m (Value.int .u64 0):=by
 refine YH (by simp [Builtin.zeroCells]) (λi h1 h2=>?_);simp [Builtin.zeroCells,xD]
theorem cF {ty:TypeId}{g d n:Nat}:∀(m k:Nat) (L:List Nat) (W:World),zy W ty g d n L->k+m<=n->
  zy (W.setCells g k (List.replicate m (Value.int .u64 0))) ty g d n (L.take k++List.replicate m 0++L.drop (k+m))/\zW g W (W.setCells g k (List.replicate m (Value.int .u64 0)))
 |0,k,L,W,h,hk=>by
   refine⟨?_,zW.refl g W⟩;simp only [List.replicate_zero,List.append_nil,xI,YU,World.setCells];exact h
 |m+1,k,L,W,h,hk=>by
   have hl:=h.len;obtain⟨h1,h2⟩:=cF m (k+1) (L.set k 0) (W.setCell ⟨g,k,none⟩ (.int .u64 ((0:Nat):Int))) (h.set_ k 0 za) za;rw [oI _ _ _ za] at h1;have e:(L.set k 0).drop (k+1+m)=L.drop (k+(m+1)):=by
    rw [<-List.drop_drop,mI,List.drop_drop];congr 1;omega
   rw [e] at h1;refine⟨?_,(zW.set_ (zW.refl g W) k _).trans h2⟩;rw [List.replicate_succ (a:=(0:Nat)),show L.take k++0::List.replicate m 0=L.take k++[0]++List.replicate m 0 by simp];exact h1
theorem Wg {ty:TypeId}{n k m c:Nat}{A C:List Nat}{W:World}(h:zy W ty g a n (A++C))(hA:A.length=k)(hC:C.length=m)(hm:0<m):
  ∃W2,(∀t:TypeId,(Builtin.clear_ #[54] t #[.slice (some ⟨g,k,none⟩) m c]).run prog W=.ok (.tuple #[]) W2)/\zy W2 ty g a n (A++List.replicate m 0)/\zW g W W2:=by
 obtain⟨i0,i,u,hz1,hz2⟩:=info_parts rN;have hl:=h.len;rw [qA,hA,hC] at hl;obtain⟨h1,h2⟩:=cF m k (A++C) W h za;rw [QM (by rw [qA];omega),List.append_nil,<-hA,YO,hA] at h1;have d:=run_storeCells_cells (P:=prog) g k (List.replicate m (Value.int .u64 0)) 0 W
  (λj hj=>by rw [QE] at hj;rw [xI,h.cell (k+j) za];rfl) (λj _=>h.frozen _) (λv hv=>by rw [List.eq_of_mem_replicate hv];rfl)
 refine⟨_,λt=>?_,h1,h2⟩;obtain⟨m,rfl⟩:∃r,m=r+1:=⟨m - 1,za⟩;have hz:=Vu (m+1);rw [xI] at d;simp [Builtin.clear_,run_underlying underlying54,zeroValue,typeInfo,i,u,hz,d,Value.cells]
theorem Xx {c:Nat}{A:zf}(t:TypeId)(W:World):(Builtin.clear_ #[54] t #[.slice A 0 c]).run prog W=.ok (.tuple #[]) W:=by
 cases A<;>simp [Builtin.clear_,run_underlying underlying54]
set_option maxRecDepth 100000
structure wv (P L:List Nat)(k:Nat)(q:List Nat)(b:Nat):Prop where
 len:q.length=P.length
 dgs:zC 18446744073709551616 q
 carry:b<=1
 val:dv 18446744073709551616 (q.take k)+dv 18446744073709551616 (L.take k)=dv 18446744073709551616 (P.take k)+18446744073709551616^k*b
 rest:∀i,k<=i->q.getD i 0=P.getD i 0
theorem wv.start (P L:List Nat)(h:zC 18446744073709551616 P):wv P L 0 P 0:=⟨rfl,h,za,by simp [dv],λ_ _=>rfl⟩
theorem qk {q:List Nat}{k:Nat}(h:zC b q)(hd:d<b):zC b (q.set k d):=λx hx=>by
 rcases XX hx with h1|h1
 ·exact h x h1
 ·rw [h1];exact hd
theorem fR {q:List Nat}{k:Nat}(h:k<q.length):(q.set k d).getD k 0=d:=by
 simp [qQ,h]
theorem Yd {q:List Nat}{k:Nat}(h:k≠i):(q.set k d).getD i 0=q.getD i 0:=by
 simp [qQ,h]
theorem Ye (q:List Nat)(k d:Nat):(q.set k d).take k=q.take k:=List.take_set_of_le (qX k)
theorem wv.step {q:List Nat}{k d b':Nat}(h:wv P L k q b)(hk:k<P.length)(hd:d<18446744073709551616)(hb:b'<=1)(hs:d+L.getD k 0+b=q.getD k 0+18446744073709551616*b'):wv P L (k+1) (q.set k d) b':=by
 refine⟨by simpa using h.len,qk h.dgs hd,hb,?_,λi hi=>by rw [Yd za];exact h.rest i za⟩;have hv:=h.val;have hr:=h.rest k (qX k);rw [wZ,wZ,wZ,Ye,fR (by rw [h.len];exact hk),qN];rw [hr] at hs;obtain⟨B,hB⟩:∃B,18446744073709551616^k=B:=⟨_,rfl⟩;rw [hB] at hv⊢;have e:B*d+B*L.getD k 0+B*b=B*P.getD k 0+B*18446744073709551616*b':=by
  rw [<-qS,<-qS,hs,qS,qU]
 omega
theorem wv.done {L q:List Nat}(h:wv P L P.length q b)(hL:L.length=P.length)(hle:dv 18446744073709551616 L<=dv 18446744073709551616 P):dv 18446744073709551616 q=dv 18446744073709551616 P - dv 18446744073709551616 L:=by
 have hv:=h.val;have hq:=wh h.dgs;rw [h.len] at hq;rw [qV (by rw [h.len];exact qX _),qV za,qV (qX _)] at hv;rcases (show b=0\/b=1 by have:=h.carry;omega) with rfl|rfl
 ·omega
 ·omega
def uX (w:World)(ty:TypeId)(g cap n X:Nat)(e:Ending)(w':World):Prop:=
 ∃(v:Value) (L:List Nat),e=.returned v/\zy w' ty g cap n L/\zC 18446744073709551616 L/\dv 18446744073709551616 L=X/\zW g w w'
theorem Wh (a b c:Nat)(ha:a<18446744073709551616)(hb:b<18446744073709551616)(hc:c<=1):∃d c':Nat,d<18446744073709551616/\c'<=1/\d+b+c=a+18446744073709551616*c'/\
  ∀w:World,(callFunc 142 #[.int .u64 a,.int .u64 b,.int .u64 c]).run prog w=.ok (.value (.tuple #[.int .u64 (d:Int),.int .u64 (c':Int)])) w:=by
 obtain⟨d,c',e1,e2,h1,h2,h3⟩:=gA ha hb hc;refine⟨d,c',h1,h2,h3,λw=>?_⟩;have h:=oB a b c ⟨za,za⟩ ⟨za,za⟩ za za w;rw [e1,e2] at h;exact h
theorem fL (ty u:TypeId)(g g2 c1 c2 n:Nat)(L1 L2:List Nat)(w:World)(hR:zy w ty g c1 n L1)(h2:zy w u g2 c2 n L2)(G:g2≠g)(h:zC 18446744073709551616 L1)(m:zC 18446744073709551616 L2)
  (t:dv 18446744073709551616 L2<=dv 18446744073709551616 L1) (hn:n<=1099511627776):
  Calls prog 145 #[.slice (some ⟨g,0,none⟩) n c1,.slice (some ⟨g2,0,none⟩) n c2] w (uX w ty g c1 n (dv 18446744073709551616 L1 - dv 18446744073709551616 L2)):=by
 have j:=zd hR.len;have z:=zd h2.len;have v:=zd m;have A:=zd t;have HI:=zd (wv.start L1 L2 h);have HO:=zW.refl g w;clear h m t;go_enter func145,ntmps145;go_wp2_with fail
 go_loopg [4,9] (n+1) (λgg bo ix wr=>∃(i b:Nat) (q:List Nat),i<=n/\n<gg+i/\ix=.int .i64 i/\bo=.int .u64 b/\zg (wv L1 L2 i q b)/\zy wr ty g c1 n q/\zy wr u g2 c2 n L2/\zW g w wr)
 case atStart=>exact⟨0,0,L1,xQ _,za,rfl,rfl,HI,hR,h2,HO⟩
 case round=>
  clear hR HI HO h2;obtain⟨i,bb,q,hin,hgg,rfl,rfl,HI,hR,h2,hO⟩:=hrel;have hI:=HI.o;by_cases hlt:i<n
  ·have k1:=hR.cell i hlt;have k2:=h2.cell i hlt;have k3:=hR.frozen i;obtain⟨d,b',h,E,hx,hS⟩:=Wh (q.getD i 0) (L2.getD i 0) bb (hI.dgs.getD zh i) (v.o.getD zh i) hI.carry;have D:=zd (hI.step (by rw [j.o];exact hlt) h E hx);have C:=zd (hR.set_ i d hlt);have B:=zd (hO.set_ i (.int .u64 (d:Int)));have y:=zd (h2.far (p:=⟨g,i,none⟩) G (.int .u64 (d:Int)));obtain⟨a,ha⟩:∃b,q.getD i 0=b:=⟨_,rfl⟩;obtain⟨b,hb⟩:∃b,L2.getD i 0=b:=⟨_,rfl⟩;rw [ha] at k1 hS;rw [hb] at k2 hS;have i1:(0:Int)<=(i:Int):=za;have i2:(i:Int)<(n:Int):=za;clear ha hb hx hI HI hR h2 hO;go_wp2;go_roundg (n - i)
   case measure=>omega
   case rel=>exact⟨i+1,b',_,za,za,by go_num,rfl,D,C.o,y.o,B.o⟩
  ·have F:i=n:=za;subst F;have HV:zg (dv 18446744073709551616 q=dv 18446744073709551616 L1 - dv 18446744073709551616 L2):=by
    have e:=j.o;rw [<-e] at hI;exact hI.done (by rw [z.o,e]) A.o
   have x:=zd hI.dgs;clear hI HI;go_wp2
   go_end0
   exact⟨_,q,rfl,hR,x.o,HV.o,hO⟩
theorem im {s:Nat}(h:L.getD s 0=0):dv 18446744073709551616 (L.take (s+1))=dv 18446744073709551616 (L.take s):=by
 rw [wZ,h,XC,xI]
theorem X0 (ha:a<18446744073709551616)(hb:b<18446744073709551616)(h:¬(a=0/\b=0)):∃c:Nat,bits .or .u64 (a:Int) (b:Int)=(c:Int)/\c≠0:=by
 refine⟨a|||b,bits_or_u64_nat _ _ ha hb,λe=>h ?_⟩;exact Nat.or_eq_zero_iff.1 e
def uV (w:World)(g1 g2 c1 c2 n:Nat)(L1 L2:List Nat)(e:Ending)(w':World):Prop:=
 ∃ s : Nat,1 ≤ s ∧ s ≤ n ∧ e = .returned (.tuple #[.slice (some ⟨g1,0,none⟩) s c1,.slice (some ⟨g2,0,none⟩) s c2]) ∧
  dv 18446744073709551616 (L1.take s)=dv 18446744073709551616 L1/\dv 18446744073709551616 (L2.take s)=dv 18446744073709551616 L2/\Below w.heap.size w w'
theorem Yu (ty x:TypeId)(g1 g2 c1 c2 n:Nat)(L1 L2:List Nat)(w:World)(h1:zy w ty g1 c1 n L1)(h2:zy w x g2 c2 n L2)(t:zC 18446744073709551616 L1)(v:zC 18446744073709551616 L2)
  (hx:dv 18446744073709551616 L1≠0) (hn:n<=1099511627776):
  Calls prog 143 #[.slice (some ⟨g1,0,none⟩) n c1,.slice (some ⟨g2,0,none⟩) n c2] w (uV w g1 g2 c1 c2 n L1 L2):=by
 have hn0:1<=n:=by
  rcases QS n with e|e
  ·have:=h1.len;rw [qM (this.trans e)] at hx;exact absurd rfl hx
  ·exact e
 have hr1:=h1.room.1;have hr2:=h2.room.1;have hb:=qY w.heap.size w;have HX:=zd hx;have y:=zd t;have z:=zd v;have d:zg (dv 18446744073709551616 (L1.take n)=dv 18446744073709551616 L1):=by show _=_;rw [qV (by rw [h1.len];exact qX _)]
 have g:zg (dv 18446744073709551616 (L2.take n)=dv 18446744073709551616 L2):=by show _=_;rw [qV (by rw [h2.len];exact qX _)]
 clear hx t v;go_enter func143,ntmps143;go_wp2_with fail
 go_loopg [6] (n+1) (λgg u wr=>∃s:Nat,s+1<=n/\s<gg/\u=.int .i64 ((s:Int)+1)/\zg (dv 18446744073709551616 (L1.take (s+1))=dv 18446744073709551616 L1)/\zg (dv 18446744073709551616 (L2.take (s+1))=dv 18446744073709551616 L2)/\zy wr ty g1 c1 n L1/\zy wr x g2 c2 n L2/\Below w.heap.size w wr)
 case atStart=>
  obtain⟨s,rfl⟩:∃s,n=s+1:=⟨n - 1,za⟩;exact⟨s,za,za,zD,d,g,h1,h2,hb⟩
 case round=>
  clear d g h1 h2 hb;obtain⟨s,hs,hgg,rfl,d,g,h1,h2,hb⟩:=hrel;have k1:=h1.cell s za;have k2:=h2.cell s za;have i1:(0:Int)<=(s:Int):=za;have i2:(s:Int)<(n:Int):=za;have i3:(s:Int)+1 - 1=(s:Int):=za;have i4:IntKind.i64.wrap (s:Int)=(s:Int):=QD _ za;have i:=y.o.getD zh s;have j:=z.o.getD zh s;by_cases hz:L1.getD s 0=0/\L2.getD s 0=0
  ·obtain⟨z1,z2⟩:=hz;have hs0:s≠0:=λe=>by
    subst e;have h:=d.o;rw [im z1] at h;exact HX.o (by rw [<-h];rfl)
   obtain⟨s,rfl⟩:∃r,s=r+1:=⟨s - 1,za⟩;have d:zg (dv 18446744073709551616 (L1.take (s+1))=dv 18446744073709551616 L1):=(im z1).symm.trans d.o;have g:zg (dv 18446744073709551616 (L2.take (s+1))=dv 18446744073709551616 L2):=(im z2).symm.trans g.o;rw [z1] at k1;rw [z2] at k2;have ho:bits .or .u64 ((0:Nat):Int) ((0:Nat):Int)=0:=zh;clear z1 z2 i j;go_wp2_with fail;go_region;go_wp2;go_roundg (s+1)
   case measure=>omega
   case rel=>exact⟨s,za,za,by go_num,d,g,h1.drew,h2.drew,hb.drew⟩
  ·obtain⟨c,ho,hc0⟩:=X0 i j hz;obtain⟨a,ha⟩:∃a,L1.getD s 0=a:=⟨_,rfl⟩;obtain⟨b,m⟩:∃b,L2.getD s 0=b:=⟨_,rfl⟩;rw [ha] at k1 ho;rw [m] at k2 ho;have hcz:((c:Int)==0)=false:=by simp;omega
   have j1:(s:Int)+1<=(c1:Int):=za;have j2:(s:Int)+1<=(c2:Int):=za;have j3:(0:Int)<=(s:Int)+1:=za;have j4:((s:Int)+1).toNat=s+1:=za;clear ha m hz i j;go_wp2_with fail;go_region;go_wp2_with fail;go_region;go_wp2
   go_ret2
   exact⟨s+1,za,hs,by first|rfl|simp,d.o,g.o,hb.drew.drew⟩
theorem V9 {y:Nat}(h:Nat.gcd x y=g):Nat.gcd y (x%y)=g:=by
 rw [<-h,XE x y,Nat.gcd_rec y x,XE]
theorem Ua (h:Nat.gcd x 0=g):x=g:=by rw [<-h,Nat.gcd_zero_right]
theorem dN (x y:Nat)(w:World)(hx:x<18446744073709551616)(hy:y<18446744073709551616):
  Calls prog 125 #[.int .u64 x,.int .u64 y] w λe w'=>e=.returned (.int .u64 (Nat.gcd x y:Nat))/\Below w.heap.size w w':=by
 have hB:=qY w.heap.size w;obtain⟨g,hg⟩:∃g,Nat.gcd x y=g:=⟨_,rfl⟩;rw [hg];have HG:=zd hg;clear hg;go_enter func125,ntmps125;go_wp2_with fail
 go_loopg [0,1] (y+1) (λgg s0 s1 wr=>∃(a b:Nat),a<18446744073709551616/\b<18446744073709551616/\b<gg/\s0=.int .u64 a/\s1=.int .u64 b/\zg (Nat.gcd a b=g)/\Below w.heap.size w wr)
 case atStart=>exact⟨x,y,hx,hy,za,rfl,rfl,HG,hB⟩
 case round=>
  clear hx hy HG hB;obtain⟨a,b,ha,hb,hgg,rfl,rfl,HG,hB⟩:=hrel;rcases QS b with rfl|hpos
  ·have HE:=zd (Ua HG.o);clear HG;go_wp2;go_ret;exact⟨by rw [HE.o];rfl,hB⟩
  ·have HE:=zd (V9 HG.o);have hz:((b:Int)==0)=false:=by simp;omega
   have hz2:((b:Int) !=0)=true:=by simp;omega
   have hz3:¬((b:Int)=0):=za;have hm:(a:Int).tmod b=((a%b:Nat):Int):=by rw [yG za];exact(Int.natCast_emod _ _).symm
   have d:a%b<b:=QI _ hpos;have h:(a:Int)%b=((a%b:Nat):Int):=(Int.natCast_emod _ _).symm;obtain⟨r,hr⟩:∃r,a%b=r:=⟨_,rfl⟩;rw [hr] at hm d HE h;clear HG hr;go_wp2_with fail;go_region;go_wp2;go_roundg b
   case measure=>omega
   case rel=>exact⟨b,r,hb,za,d,rfl,by go_num,HE,by first|exact hB|exact hB.drew⟩
theorem sk {w w':World}(h:zW g w w'):zW g w w'.drew:=⟨h.os,h.tape,h.output,h.size,h.block⟩
def wQ (Y:Nat)(L:List Nat)(i:Nat):List Nat:=wE Y i++L.drop i
theorem VX (h:i<=L.length):(wQ Y L i).length=L.length:=by simp [wQ,oC];omega
theorem dK {k:Nat}(h:i<=k):(wQ Y L i).getD k 0=L.getD k 0:=by
 obtain⟨j,rfl⟩:∃j,k=i+j:=⟨k - i,za⟩;simp only [wQ,qQ];rw [qD (by rw [oC];omega),oC,QW,YY]
theorem VY (h:i<L.length):(wQ Y L i).set i d=wE Y i++d::L.drop (i+1):=by
 unfold wQ;rw [yH _ _ (by rw [oC];omega),oC,xW,xS h,qG]
theorem VZ {e:Nat}(h:i<L.length):((wQ Y L i).set i d).set i e=(wQ Y L i).set i e:=by simp [List.set_set]
theorem ev (h:i<L.length):(wQ Y L i).set i (wd Y i)=wQ Y L (i+1):=by
 rw [VY h];unfold wQ;rw [ip,xX];rfl
theorem Ys (Y:Nat)(L:List Nat):wQ Y L 0=L:=by simp [wQ,wE]
theorem V2 {q r:Nat}(hr:r<64):wd (X / 2^(64*q+r)) i=wd X (q+i) / 2^r+2^(64 - r)*(wd X (q+i+1)%2^r):=by
 have h:=sU X (64*q+r) i;rw [show(64*q+r) / 64=q from by omega,show(64*q+r)%64=r from by omega] at h;exact h
theorem V0 {q r n:Nat}(hX:X<18446744073709551616^n)(hq:q<=n):(dg 18446744073709551616 (X / 2^(64*q+r))).length<=n - q:=by
 refine pR zh _ _ ?_;have e:(18446744073709551616:Nat)^q=2^(64*q):=by rw [show(18446744073709551616:Nat)=2^64 from rfl,<-YG]
 rw [xU,<-xN,<-e];refine QA (xK _ _) ((QU (XM zh)).2 ?_);rw [<-xU,Nat.sub_add_cancel hq];exact hX
def oP (w:World)(ty:TypeId)(g cap n X:Nat)(e:Ending)(w':World):Prop:=
 (X=0/\e=.returned (.bool false)/\w=w')\/(X≠0/\∃L,e=.returned (.bool true)/\zy w' ty g cap n L/\zC 18446744073709551616 L/\dv 18446744073709551616 L=X / 2^yy X/\zW g w w')
theorem cY (ty:TypeId)(g d n:Nat)(L:List Nat)(w:World)(hR:zy w ty g d n L)(hd:zC 18446744073709551616 L)(hn:n<=1099511627776)(hT:zv w):
  Calls prog 146 #[.slice (some ⟨g,0,none⟩) n d] w (oP w ty g d n (dv 18446744073709551616 L)):=by
 have hl:=hR.len;have hX:=wh hd;rw [hl] at hX;have HW:∀k,L.getD k 0=wd (dv 18446744073709551616 L) k:=λk=>nU zh hd k;obtain⟨X,U⟩:∃X,dv 18446744073709551616 L=X:=⟨_,rfl⟩;rw [U] at hX HW⊢;have HX:=zd hX;have K:=zd HW;have HL:=zd hl;have hnc:=hR.room.1;have HT:=zd hT;have HR:=zd hR;clear hX HW hl U hT hR;go_enter func146,ntmps146;go_wp2_with fail
 go_loop [3] (λix=>∃k:Nat,k<=n/\ix=.int .i64 k/\zg (X%18446744073709551616^k=0)) (λix=>n - (intOf ix).toNat)
 case atStart=>exact⟨0,xQ _,rfl,by show _=_;simp [xD]⟩
 case round=>
  obtain⟨k,hk,rfl,H⟩:=hrel;have i1:(0:Int)<=(k:Int):=za;by_cases hlt:k<n
  ·have I:=HR.o.cell k hlt;rw [K.o] at I;have i2:(k:Int)<(n:Int):=za;by_cases hz:wd X k=0
   ·have HN:zg (X%18446744073709551616^(k+1)=0):=by
     show _=_;rw [wM 18446744073709551616 X k,H.o,xG];unfold wd at hz;rw [hz,XC]
    rw [hz] at I;clear hz;go_wp2
    go_round
    case rel=>exact⟨k+1,za,by go_num,HN⟩
    case measure=>simp [intOf];omega
   ·have HV:=zd (aP H.o hz);have Z:=xl X k;have WT:=aO ((wd X k:Nat):Int) ⟨za,za⟩ w HT.o;have et:mm ((wd X k:Nat):Int)=((Lib.ctz 64 (wd X k):Nat):Int):=by unfold mm;simp
    have F:Lib.ctz 64 (wd X k)<64:=by
     obtain⟨m,hm,hc⟩:=Lib.ctzFrom_spec 64 (wd X k) za (by simpa using Z);have ec:Lib.ctz 64 (wd X k)=Lib.ctzFrom 64 (wd X k):=by unfold Lib.ctz;rw [if_neg hz]
     rw [ec];rcases xC (Lib.ctzFrom 64 (wd X k)) 64 with h|h
     ·exact h
     ·have h2:2^64<=2^Lib.ctzFrom 64 (wd X k):=qL zh h;have h3:2^Lib.ctzFrom 64 (wd X k)<=wd X k:=by
       conv=>rhs;rw [hm]
       exact Nat.le_mul_of_pos_right _ za
      omega
    rw [et] at WT;obtain⟨r,hr⟩:∃t,Lib.ctz 64 (wd X k)=t:=⟨_,rfl⟩;rw [hr] at WT HV F;obtain⟨a,ha⟩:∃a,wd X k=a:=⟨_,rfl⟩;rw [ha] at I WT hz;have T:=zd WT;have ah:((a:Int)==0)=false:=beq_eq_false_iff_ne.2 za;have ai:((a:Int) !=0)=true:=by simp;omega
    have O:((k:Int)==(n:Int))=false:=beq_eq_false_iff_ne.2 za;have M:zg (X≠0):=λe=>by
     rw [e] at ha;have:(0:Nat)=a:=by rw [<-ha];unfold wd;simp
     exact hz this.symm
    obtain⟨Y,hY⟩:∃Y,X / 2^(64*k+r)=Y:=⟨_,rfl⟩;have ae:zg (∀i,wd Y i=wd X (k+i) / 2^r+2^(64 - r)*(wd X (k+i+1)%2^r)):=λi=>by rw [<-hY];exact V2 F
    have Q:zg ((dg 18446744073709551616 Y).length<=n - k):=by show _;rw [<-hY];exact V0 HX.o hk
    have ad:zg (Y=X / 2^yy X):=by show _=_;rw [<-hY,HV.o]
    obtain⟨N,hN⟩:∃N,n - k=N:=⟨_,rfl⟩;obtain⟨C,hC⟩:∃N,d - k=N:=⟨_,rfl⟩;rw [hN] at Q;have aa:=zd (show N+k=n by omega);have hck:¬(d=k):=za;have hNp:0<N:=za;have i3:(k:Int)<=(n:Int):=za;clear WT hr ha et Z hY HV H;go_wp2_with fail;refine T.o.mono ?_;rintro e w' ⟨rfl,rfl⟩;go_wp2_with fail;have S:zy w ty g d n (wQ Y L 0):=by rw [Ys];exact HR.o
    have R:=zW.refl g w;clear ah ai O I hz T
    go_loopg [34] (N+1) (λgg ix wr=>∃i:Nat,i<=N/\N<gg+i/\ix=.int .i64 i/\zy wr ty g d n (wQ Y L i)/\zW g w wr)
    case atStart=>exact⟨0,za,za,rfl,S,R⟩
    case round=>
     clear S R;obtain⟨i,hi,hgg,rfl,hR,hO⟩:=hrel;have hNn:=aa.o;have j0:(0:Int)<=(i:Int):=za;by_cases V:i<N
     ·have D:i<n:=za;have hw:=ae.o i;have J:=xl X (k+i);have P:=xl X (k+i+1);have k1:=hR.cell (k+i) za;rw [dK za,K.o] at k1;have k2:=hR.cell i D;have k3:=hR.frozen i;have j1:(i:Int)<(N:Int):=za;have j2:(i:Int)<(n:Int):=za;have j3:IntKind.i64.wrap (64 - (r:Int))=64 - (r:Int):=QD _ za;have j4:IntKind.i64.wrap ((i:Int)+1)=(i:Int)+1:=QD _ za;obtain⟨b,hb⟩:∃b,wd X (k+i+1)=b:=⟨_,rfl⟩;obtain⟨v,hv⟩:∃b,wd X (k+i)=b:=⟨_,rfl⟩;obtain⟨u,hu⟩:∃b,(wQ Y L i).getD i 0=b:=⟨_,rfl⟩;rw [hv] at k1 hw J;rw [hb] at hw P;rw [hu] at k2;have e1:(v:Int) / 2^r=((v / 2^r:Nat):Int):=zD;have j:=hR.set_ i (v / 2^r) D;rw [<-e1] at j;have G:=hO.set_ i (.int .u64 ((v:Int) / 2^r));have hll:=HL.o;by_cases hi1:i+1<N
      ·have m1:=j.cell i D;rw [fR (by rw [VX za];omega),<-e1] at m1;have m2:=hR.cell (k+(i+1)) za;rw [dK za,K.o,show wd X (k+(i+1))=b from by rw [<-xR];exact hb] at m2;have m3:=j.frozen i;have j5:(i:Int)+1<(N:Int):=za;have j6:((i:Int)+1).toNat=i+1:=za;have j7:(0:Int)<=(i:Int)+1:=za;have hc:=bW (b:=b) J F;have B:=j.drew.set_ i (v / 2^r+2^(64 - r)*(b%2^r)) D;rw [<-hc,VZ za,<-hw,ev za] at B;have ac:=zd B;have E:=(sk G).set_ i (.int .u64 (bits .or .u64 ((v:Int) / 2^r) (IntKind.u64.wrap ((b:Int)*2^(64 - r)))));have ab:=zd E;clear B E j G hR hO hc e1 hw hb hv hu J P;go_wp2_with fail;go_region;go_wp2;go_roundg (N - i)
       case measure=>omega
       case rel=>exact⟨i+1,za,za,by go_num,ac.o,ab.o⟩
      ·have af:b=0:=by
        rw [<-hb,show k+i+1=n from by omega];unfold wd;rw [xJ HX.o]
       rw [af,Nat.zero_mod,XC,xI] at hw;rw [<-hw,ev za] at j;have z:=zd j;have y:=zd G;have j5:¬((i:Int)+1<(N:Int)):=za;clear j G hR hO e1 hw hb hv hu J P;go_wp2;go_roundg (N - i)
       case measure=>omega
       case rel=>exact⟨i+1,za,za,by go_num,z.o,y.o⟩
     ·have V:i=N:=za;subst V;have HF:∀L',L'=wE Y i++List.replicate k 0->zg (zC 18446744073709551616 L'/\dv 18446744073709551616 L'=X / 2^yy X):=λL' e=>by
       subst e;refine⟨(ez _ _).append (zC.zeros zh _),?_⟩;rw [vJ,mH,XC,xI,ew Q.o,ad.o]
      have x:=zd (HF _ rfl);clear HF;have q1:n - i=k:=za;have q2:(i:Int)<=(n:Int):=za;rcases QS k with hk0|hkp
      ·subst hk0;have D:i=n:=za;subst D;have z:zg (zy wr ty g d i (wE Y i++List.replicate 0 0)):=by
        show zy _ _ _ _ _ _;rw [show wQ Y L i=wE Y i++List.replicate 0 0 from by unfold wQ;rw [QM (by rw [HL.o];exact qX _)];rfl] at hR;exact hR
       have y:=zd hO;have ag:∀(t:TypeId) (A:zf) (c:Nat),(Builtin.clear_ #[54] t #[.slice A 0 c]).run prog wr=.ok (.tuple #[]) wr:=λt A c=>Xx t wr;clear hR hO;by_cases hce:d=i
       ·go_wp2;go_ret;exact .inr ⟨M.o,_,rfl,z.o,x.o.o.1,x.o.o.2,y.o⟩
       ·go_wp2;go_ret;exact .inr ⟨M.o,_,rfl,z.o,x.o.o.1,x.o.o.2,y.o⟩
      ·have hci:¬(d=i):=za;obtain⟨W2,ag,B,E⟩:=Wg (c:=d - i) (k:=i) (m:=k) (A:=wE Y i) (C:=L.drop i) hR (oC _ _) (by rw [YX,HL.o];omega) hkp;have z:=zd B;have y:=zd (hO.trans E);clear hR hO B E;go_wp2;go_ret;exact .inr ⟨M.o,_,rfl,z.o,x.o.o.1,x.o.o.2,y.o⟩
  ·have O:k=n:=za;subst O;have HZ:zg (X=0):=by
    show _=_;have h2:=H.o;rw [qP HX.o] at h2;exact h2
   go_wp2;go_ret;exact .inl ⟨HZ.o,rfl,rfl⟩
