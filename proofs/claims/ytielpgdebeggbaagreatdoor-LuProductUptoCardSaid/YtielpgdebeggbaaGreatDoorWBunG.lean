/- What this claim leans on. -/
import Derived.Test.YtielpgdebeggbaaGreatDoorWBunY
import Derived.Laws.IdiomCopy
set_option linter.unusedVariables false
set_option linter.unusedSimpArgs false
namespace Go.Proofs.YtielpgdebeggbaaGreatDoor
open Go Go.RowKit Go.Proofs.Tryz
set_option maxHeartbeats 16000000
variable {L L1 L2 P:List Nat}{B X Y b d g i k n q1 x:Nat}{ty:TypeId}{W w:World}
theorem Rc (m:Nat):(Builtin.zeroCells #[Value.int .u64 0] m).toList=List.replicate m (Value.int .u64 0):=by
 refine YP (by simp [Builtin.zeroCells]) (λi h1 h2=>?_);simp [Builtin.zeroCells,XX]
theorem WG {ty:TypeId}{g cap n:Nat}:∀(m k:Nat) (L:List Nat) (W:World),zF W ty g cap n L->k+m<=n->
  zF (W.setCells g k (List.replicate m (Value.int .u64 0))) ty g cap n (L.take k++List.replicate m 0++L.drop (k+m))/\yv g W (W.setCells g k (List.replicate m (Value.int .u64 0)))
 |0,k,L,W,h,hk=>by
   refine⟨?_,yv.refl g W⟩;simp only [List.replicate_zero,List.append_nil,XD,YS,World.setCells];exact h
 |m+1,k,L,W,h,hk=>by
   have hl:=h.len;obtain⟨h1,h2⟩:=WG m (k+1) (L.set k 0) (W.setCell ⟨g,k,none⟩ (.int .u64 ((0:Nat):Int))) (h.set_ k 0 zb) zb;rw [lH _ _ _ zb] at h1;have e:(L.set k 0).drop (k+1+m)=L.drop (k+(m+1)):=by
    rw [<-List.drop_drop,jU,List.drop_drop];congr 1;omega
   rw [e] at h1;refine⟨?_,(yv.set_ (yv.refl g W) k _).trans h2⟩;rw [List.replicate_succ (a:=(0:Nat)),show L.take k++0::List.replicate m 0=L.take k++[0]++List.replicate m 0 by simp];exact h1
theorem Se {cap k m c:Nat}{A C:List Nat}(h:zF W ty g cap n (A++C))(hA:A.length=k)(hC:C.length=m)(hm:0<m):
  ∃W2,(∀t:TypeId,(Builtin.clear_ #[46] t #[.slice (some ⟨g,k,none⟩) m c]).run prog W=.ok (.tuple #[]) W2)/\zF W2 ty g cap n (A++List.replicate m 0)/\yv g W W2:=by
 obtain⟨i0,d,i,hz1,hz2⟩:=info_parts oS;have hl:=h.len;rw [qB,hA,hC] at hl;obtain⟨h1,h2⟩:=WG m k (A++C) W h zb;rw [xC (by rw [qB];omega),List.append_nil,<-hA,jJ,hA] at h1;have a:=run_storeCells_cells (P:=prog) g k (List.replicate m (Value.int .u64 0)) 0 W
  (λj hj=>by rw [yR] at hj;rw [XD,h.cell (k+j) zb];rfl) (λj _=>h.frozen _) (λv hv=>by rw [List.eq_of_mem_replicate hv];rfl)
 refine⟨_,λt=>?_,h1,h2⟩;obtain⟨m,rfl⟩:∃r,m=r+1:=⟨m - 1,zb⟩;have hz:=Rc (m+1);rw [XD] at a;simp [Builtin.clear_,run_underlying underlying46,zeroValue,typeInfo,d,i,hz,a,Value.cells]
theorem SZ {c:Nat}{A:ze}(t:TypeId)(W:World):(Builtin.clear_ #[46] t #[.slice A 0 c]).run prog W=.ok (.tuple #[]) W:=by
 cases A<;>simp [Builtin.clear_,run_underlying underlying46]
set_option maxRecDepth 100000
structure vE (P L:List Nat)(k:Nat)(q:List Nat)(b:Nat):Prop where
 len:q.length=P.length
 dgs:zG 18446744073709551616 q
 carry:b<=1
 val:dv 18446744073709551616 (q.take k)+dv 18446744073709551616 (L.take k)=dv 18446744073709551616 (P.take k)+18446744073709551616^k*b
 rest:∀i,k<=i->q.getD i 0=P.getD i 0
theorem vE.start (P L:List Nat)(h:zG 18446744073709551616 P):vE P L 0 P 0:=⟨rfl,h,zb,by simp [dv],λ_ _=>rfl⟩
theorem nA {q:List Nat}(h:zG b q)(hd:d<b):zG b (q.set k d):=λx hx=>by
 rcases QW hx with h1|h1
 ·exact h x h1
 ·rw [h1];exact hd
theorem Ym {q:List Nat}(h:k<q.length):(q.set k d).getD k 0=d:=by
 simp [qQ,h]
theorem TY {q:List Nat}(h:k≠i):(q.set k d).getD i 0=q.getD i 0:=by
 simp [qQ,h]
theorem TZ (q:List Nat)(k d:Nat):(q.set k d).take k=q.take k:=List.take_set_of_le (qX k)
theorem vE.step {q:List Nat}{d b':Nat}(h:vE P L k q b)(hk:k<P.length)(hd:d<18446744073709551616)(hb:b'<=1)(hs:d+L.getD k 0+b=q.getD k 0+18446744073709551616*b'):vE P L (k+1) (q.set k d) b':=by
 refine⟨by simpa using h.len,nA h.dgs hd,hb,?_,λi hi=>by rw [TY zb];exact h.rest i zb⟩;have hv:=h.val;have hr:=h.rest k (qX k);rw [uA,uA,uA,TZ,Ym (by rw [h.len];exact hk),QK];rw [hr] at hs;obtain⟨B,hB⟩:∃B,18446744073709551616^k=B:=⟨_,rfl⟩;rw [hB] at hv⊢;have e:B*d+B*L.getD k 0+B*b=B*P.getD k 0+B*18446744073709551616*b':=by
  rw [<-qE,<-qE,hs,qE,qD]
 omega
theorem vE.done {L q:List Nat}(h:vE P L P.length q b)(hL:L.length=P.length)(hle:dv 18446744073709551616 L<=dv 18446744073709551616 P):dv 18446744073709551616 q=dv 18446744073709551616 P - dv 18446744073709551616 L:=by
 have hv:=h.val;have hq:=vp h.dgs;rw [h.len] at hq;rw [qV (by rw [h.len];exact qX _),qV zb,qV (qX _)] at hv;rcases (show b=0\/b=1 by have:=h.carry;omega) with rfl|rfl
 ·omega
 ·omega
def ri (w:World)(ty:TypeId)(g cap n X:Nat)(e:Ending)(w':World):Prop:=
 ∃(v:Value) (L:List Nat),e=.returned v/\zF w' ty g cap n L/\zG 18446744073709551616 L/\dv 18446744073709551616 L=X/\yv g w w'
theorem Sf (a b c:Nat)(ha:a<18446744073709551616)(hb:b<18446744073709551616)(hc:c<=1):∃d c':Nat,d<18446744073709551616/\c'<=1/\d+b+c=a+18446744073709551616*c'/\
  ∀w:World,(callFunc 166 #[.int .u64 a,.int .u64 b,.int .u64 c]).run prog w=.ok (.value (.tuple #[.int .u64 (d:Int),.int .u64 (c':Int)])) w:=by
 obtain⟨d,c',e1,e2,h1,h2,h3⟩:=ZM ha hb hc;refine⟨d,c',h1,h2,h3,λw=>?_⟩;have h:=lv a b c ⟨zb,zb⟩ ⟨zb,zb⟩ zb zb w;rw [e1,e2] at h;exact h
theorem YF (ty m:TypeId)(g g2 c1 c2 n:Nat)(L1 L2:List Nat)(w:World)(hR:zF w ty g c1 n L1)(h2:zF w m g2 c2 n L2)(D:g2≠g)(c:zG 18446744073709551616 L1)(j:zG 18446744073709551616 L2)
  (k:dv 18446744073709551616 L2<=dv 18446744073709551616 L1) (hn:n<=1099511627776):
  Calls prog 157 #[.slice (some ⟨g,0,none⟩) n c1,.slice (some ⟨g2,0,none⟩) n c2] w (ri w ty g c1 n (dv 18446744073709551616 L1 - dv 18446744073709551616 L2)):=by
 have h:=za hR.len;have u:=za h2.len;have o:=za j;have v:=za k;have HI:=za (vE.start L1 L2 c);have HO:=yv.refl g w;clear c j k;go_enter func157,ntmps157;go_wp2_with fail
 go_loopg [4,9] (n+1) (λgg bo ix wr=>∃(i b:Nat) (q:List Nat),i<=n/\n<gg+i/\ix=.int .i64 i/\bo=.int .u64 b/\zd (vE L1 L2 i q b)/\zF wr ty g c1 n q/\zF wr m g2 c2 n L2/\yv g w wr)
 case atStart=>exact⟨0,0,L1,qW _,zb,rfl,rfl,HI,hR,h2,HO⟩
 case round=>
  clear hR HI HO h2;obtain⟨i,bb,q,hin,hgg,rfl,rfl,HI,hR,h2,hO⟩:=hrel;have hI:=HI.o;by_cases hlt:i<n
  ·have k1:=hR.cell i hlt;have k2:=h2.cell i hlt;have k3:=hR.frozen i;obtain⟨d,b',c,B,hx,hS⟩:=Sf (q.getD i 0) (L2.getD i 0) bb (hI.dgs.getD zf i) (o.o.getD zf i) hI.carry;have A:=za (hI.step (by rw [h.o];exact hlt) c B hx);have z:=za (hR.set_ i d hlt);have y:=za (hO.set_ i (.int .u64 (d:Int)));have t:=za (h2.far (p:=⟨g,i,none⟩) D (.int .u64 (d:Int)));obtain⟨a,ha⟩:∃b,q.getD i 0=b:=⟨_,rfl⟩;obtain⟨b,hb⟩:∃b,L2.getD i 0=b:=⟨_,rfl⟩;rw [ha] at k1 hS;rw [hb] at k2 hS;have i1:(0:Int)<=(i:Int):=zb;have i2:(i:Int)<(n:Int):=zb;clear ha hb hx hI HI hR h2 hO;go_wp2;go_roundg (n - i)
   case measure=>omega
   case rel=>exact⟨i+1,b',_,zb,zb,by go_num,rfl,A,z.o,t.o,y.o⟩
  ·have C:i=n:=zb;subst C;have HV:zd (dv 18446744073709551616 q=dv 18446744073709551616 L1 - dv 18446744073709551616 L2):=by
    have e:=h.o;rw [<-e] at hI;exact hI.done (by rw [u.o,e]) v.o
   have s:=za hI.dgs;clear hI HI;go_wp2
   go_end0
   exact⟨_,q,rfl,hR,s.o,HV.o,hO⟩
theorem aC {s:Nat}(h:L.getD s 0=0):dv 18446744073709551616 (L.take (s+1))=dv 18446744073709551616 (L.take s):=by
 rw [uA,h,yC,XD]
theorem T7 {a:Nat}(ha:a<18446744073709551616)(hb:b<18446744073709551616)(h:¬(a=0/\b=0)):∃c:Nat,bits .or .u64 (a:Int) (b:Int)=(c:Int)/\c≠0:=by
 refine⟨a|||b,bits_or_u64_nat _ _ ha hb,λe=>h ?_⟩;exact Nat.or_eq_zero_iff.1 e
def rf (w:World)(g1 g2 c1 c2 n:Nat)(L1 L2:List Nat)(e:Ending)(w':World):Prop:=
 ∃ s : Nat,1 ≤ s ∧ s ≤ n ∧ e = .returned (.tuple #[.slice (some ⟨g1,0,none⟩) s c1,.slice (some ⟨g2,0,none⟩) s c2]) ∧
  dv 18446744073709551616 (L1.take s)=dv 18446744073709551616 L1/\dv 18446744073709551616 (L2.take s)=dv 18446744073709551616 L2/\Below w.heap.size w w'
theorem TM (ty t:TypeId)(g1 g2 c1 c2 n:Nat)(L1 L2:List Nat)(w:World)(h1:zF w ty g1 c1 n L1)(h2:zF w t g2 c2 n L2)(m:zG 18446744073709551616 L1)(o:zG 18446744073709551616 L2)
  (hx:dv 18446744073709551616 L1≠0) (hn:n<=1099511627776):
  Calls prog 155 #[.slice (some ⟨g1,0,none⟩) n c1,.slice (some ⟨g2,0,none⟩) n c2] w (rf w g1 g2 c1 c2 n L1 L2):=by
 have hn0:1<=n:=by
  rcases xQ n with e|e
  ·have:=h1.len;rw [QU (this.trans e)] at hx;exact absurd rfl hx
  ·exact e
 have hr1:=h1.room.1;have hr2:=h2.room.1;have hb:=qZ w.heap.size w;have HX:=za hx;have v:=za m;have y:=za o;have d:zd (dv 18446744073709551616 (L1.take n)=dv 18446744073709551616 L1):=by show _=_;rw [qV (by rw [h1.len];exact qX _)]
 have g:zd (dv 18446744073709551616 (L2.take n)=dv 18446744073709551616 L2):=by show _=_;rw [qV (by rw [h2.len];exact qX _)]
 clear hx m o;go_enter func155,ntmps155;go_wp2_with fail
 go_loopg [6] (n+1) (λgg u wr=>∃s:Nat,s+1<=n/\s<gg/\u=.int .i64 ((s:Int)+1)/\zd (dv 18446744073709551616 (L1.take (s+1))=dv 18446744073709551616 L1)/\zd (dv 18446744073709551616 (L2.take (s+1))=dv 18446744073709551616 L2)/\zF wr ty g1 c1 n L1/\zF wr t g2 c2 n L2/\Below w.heap.size w wr)
 case atStart=>
  obtain⟨s,rfl⟩:∃s,n=s+1:=⟨n - 1,zb⟩;exact⟨s,zb,zb,zA,d,g,h1,h2,hb⟩
 case round=>
  clear d g h1 h2 hb;obtain⟨s,hs,hgg,rfl,d,g,h1,h2,hb⟩:=hrel;have k1:=h1.cell s zb;have k2:=h2.cell s zb;have i1:(0:Int)<=(s:Int):=zb;have i2:(s:Int)<(n:Int):=zb;have i3:(s:Int)+1 - 1=(s:Int):=zb;have i4:IntKind.i64.wrap (s:Int)=(s:Int):=QP _ zb;have i:=v.o.getD zf s;have j:=y.o.getD zf s;by_cases hz:L1.getD s 0=0/\L2.getD s 0=0
  ·obtain⟨z1,z2⟩:=hz;have hs0:s≠0:=λe=>by
    subst e;have h:=d.o;rw [aC z1] at h;exact HX.o (by rw [<-h];rfl)
   obtain⟨s,rfl⟩:∃r,s=r+1:=⟨s - 1,zb⟩;have d:zd (dv 18446744073709551616 (L1.take (s+1))=dv 18446744073709551616 L1):=(aC z1).symm.trans d.o;have g:zd (dv 18446744073709551616 (L2.take (s+1))=dv 18446744073709551616 L2):=(aC z2).symm.trans g.o;rw [z1] at k1;rw [z2] at k2;have ho:bits .or .u64 ((0:Nat):Int) ((0:Nat):Int)=0:=zf;clear z1 z2 i j;go_wp2_with fail;go_region;go_wp2;go_roundg (s+1)
   case measure=>omega
   case rel=>exact⟨s,zb,zb,by go_num,d,g,h1.drew,h2.drew,hb.drew⟩
  ·obtain⟨c,ho,hc0⟩:=T7 i j hz;obtain⟨a,ha⟩:∃a,L1.getD s 0=a:=⟨_,rfl⟩;obtain⟨b,k⟩:∃b,L2.getD s 0=b:=⟨_,rfl⟩;rw [ha] at k1 ho;rw [k] at k2 ho;have hcz:((c:Int)==0)=false:=by simp;omega
   have j1:(s:Int)+1<=(c1:Int):=zb;have j2:(s:Int)+1<=(c2:Int):=zb;have j3:(0:Int)<=(s:Int)+1:=zb;have j4:((s:Int)+1).toNat=s+1:=zb;clear ha k hz i j;go_wp2_with fail;go_region;go_wp2_with fail;go_region;go_wp2
   go_ret2
   exact⟨s+1,zb,hs,by first|rfl|simp,d.o,g.o,hb.drew.drew⟩
theorem R2 {y:Nat}(h:Nat.gcd x y=g):Nat.gcd y (x%y)=g:=by
 rw [<-h,yE x y,Nat.gcd_rec y x,yE]
theorem R3 (h:Nat.gcd x 0=g):x=g:=by rw [<-h,Nat.gcd_zero_right]
theorem Wn (x y:Nat)(w:World)(hx:x<18446744073709551616)(hy:y<18446744073709551616):
  Calls prog 136 #[.int .u64 x,.int .u64 y] w λe w'=>e=.returned (.int .u64 (Nat.gcd x y:Nat))/\Below w.heap.size w w':=by
 have hB:=qZ w.heap.size w;obtain⟨g,hg⟩:∃g,Nat.gcd x y=g:=⟨_,rfl⟩;rw [hg];have HG:=za hg;clear hg;go_enter func136,ntmps136;go_wp2_with fail
 go_loopg [0,1] (y+1) (λgg s0 s1 wr=>∃(a b:Nat),a<18446744073709551616/\b<18446744073709551616/\b<gg/\s0=.int .u64 a/\s1=.int .u64 b/\zd (Nat.gcd a b=g)/\Below w.heap.size w wr)
 case atStart=>exact⟨x,y,hx,hy,zb,rfl,rfl,HG,hB⟩
 case round=>
  clear hx hy HG hB;obtain⟨a,b,ha,hb,hgg,rfl,rfl,HG,hB⟩:=hrel;rcases xQ b with rfl|hpos
  ·have HE:=za (R3 HG.o);clear HG;go_wp2;go_ret;exact⟨by rw [HE.o];rfl,hB⟩
  ·have HE:=za (R2 HG.o);have hz:((b:Int)==0)=false:=by simp;omega
   have hz2:((b:Int) !=0)=true:=by simp;omega
   have hz3:¬((b:Int)=0):=zb;have hm:(a:Int).tmod b=((a%b:Nat):Int):=by rw [XA zb];exact(Int.natCast_emod _ _).symm
   have c:a%b<b:=xG _ hpos;have d:(a:Int)%b=((a%b:Nat):Int):=(Int.natCast_emod _ _).symm;obtain⟨r,hr⟩:∃r,a%b=r:=⟨_,rfl⟩;rw [hr] at hm c HE d;clear HG hr;go_wp2_with fail;go_region;go_wp2;go_roundg b
   case measure=>omega
   case rel=>exact⟨b,r,hb,zb,c,rfl,by go_num,HE,by first|exact hB|exact hB.drew⟩
theorem qz {w':World}(h:yv g w w'):yv g w w'.drew:=⟨h.os,h.tape,h.output,h.size,h.block⟩
def v7 (Y:Nat)(L:List Nat)(i:Nat):List Nat:=vN Y i++L.drop i
theorem RQ (h:i<=L.length):(v7 Y L i).length=L.length:=by simp [v7,lA];omega
theorem Wl (h:i<=k):(v7 Y L i).getD k 0=L.getD k 0:=by
 obtain⟨j,rfl⟩:∃j,k=i+j:=⟨k - i,zb⟩;simp only [v7,qQ];rw [qT (by rw [lA];omega),lA,yZ,YR]
theorem RR (h:i<L.length):(v7 Y L i).set i d=vN Y i++d::L.drop (i+1):=by
 unfold v7;rw [yS _ _ (by rw [lA];omega),lA,XH,yO h,qL]
theorem RS {e:Nat}(h:i<L.length):((v7 Y L i).set i d).set i e=(v7 Y L i).set i e:=by simp [List.set_set]
theorem X9 (h:i<L.length):(v7 Y L i).set i (wd Y i)=v7 Y L (i+1):=by
 rw [RR h];unfold v7;rw [bQ,xX];rfl
theorem TL (Y:Nat)(L:List Nat):v7 Y L 0=L:=by simp [v7,vN]
theorem RU {q r:Nat}(hr:r<64):wd (X / 2^(64*q+r)) i=wd X (q+i) / 2^r+2^(64 - r)*(wd X (q+i+1)%2^r):=by
 have h:=pX X (64*q+r) i;rw [show(64*q+r) / 64=q from by omega,show(64*q+r)%64=r from by omega] at h;exact h
theorem RT {q r:Nat}(hX:X<18446744073709551616^n)(hq:q<=n):(dg 18446744073709551616 (X / 2^(64*q+r))).length<=n - q:=by
 refine mQ zf _ _ ?_;have e:(18446744073709551616:Nat)^q=2^(64*q):=by rw [show(18446744073709551616:Nat)=2^64 from rfl,<-jK]
 rw [xI,<-XE,<-e];refine QN (xM _ _) ((QA (yX zf)).2 ?_);rw [<-xI,Nat.sub_add_cancel hq];exact hX
def lQ (w:World)(ty:TypeId)(g cap n X:Nat)(e:Ending)(w':World):Prop:=
 (X=0/\e=.returned (.bool false)/\w=w')\/(X≠0/\∃L,e=.returned (.bool true)/\zF w' ty g cap n L/\zG 18446744073709551616 L/\dv 18446744073709551616 L=X / 2^wj X/\yv g w w')
theorem VA (ty:TypeId)(g cap n:Nat)(L:List Nat)(w:World)(hR:zF w ty g cap n L)(hd:zG 18446744073709551616 L)(hn:n<=1099511627776)(hT:zt w):
  Calls prog 158 #[.slice (some ⟨g,0,none⟩) n cap] w (lQ w ty g cap n (dv 18446744073709551616 L)):=by
 have hl:=hR.len;have hX:=vp hd;rw [hl] at hX;have HW:∀k,L.getD k 0=wd (dv 18446744073709551616 L) k:=λk=>jl zf hd k;obtain⟨X,S⟩:∃X,dv 18446744073709551616 L=X:=⟨_,rfl⟩;rw [S] at hX HW⊢;have HX:=za hX;have I:=za HW;have HL:=za hl;have hnc:=hR.room.1;have HT:=za hT;have HR:=za hR;clear hX HW hl S hT hR;go_enter func158,ntmps158;go_wp2_with fail
 go_loop [3] (λix=>∃k:Nat,k<=n/\ix=.int .i64 k/\zd (X%18446744073709551616^k=0)) (λix=>n - (intOf ix).toNat)
 case atStart=>exact⟨0,qW _,rfl,by show _=_;simp [XX]⟩
 case round=>
  obtain⟨k,hk,rfl,H⟩:=hrel;have i1:(0:Int)<=(k:Int):=zb;by_cases hlt:k<n
  ·have F:=HR.o.cell k hlt;rw [I.o] at F;have i2:(k:Int)<(n:Int):=zb;by_cases hz:wd X k=0
   ·have HN:zd (X%18446744073709551616^(k+1)=0):=by
     show _=_;rw [vW 18446744073709551616 X k,H.o,xB];unfold wd at hz;rw [hz,yC]
    rw [hz] at F;clear hz;go_wp2
    go_round
    case rel=>exact⟨k+1,zb,by go_num,HN⟩
    case measure=>simp [intOf];omega
   ·have HV:=za (U1 H.o hz);have U:=wJ X k;have WT:=U0 ((wd X k:Nat):Int) ⟨zb,zb⟩ w HT.o;have et:jv ((wd X k:Nat):Int)=((Lib.ctz 64 (wd X k):Nat):Int):=by unfold jv;simp
    have D:Lib.ctz 64 (wd X k)<64:=by
     obtain⟨m,hm,hc⟩:=Lib.ctzFrom_spec 64 (wd X k) zb (by simpa using U);have ec:Lib.ctz 64 (wd X k)=Lib.ctzFrom 64 (wd X k):=by unfold Lib.ctz;rw [if_neg hz]
     rw [ec];rcases XQ (Lib.ctzFrom 64 (wd X k)) 64 with h|h
     ·exact h
     ·have h2:2^64<=2^Lib.ctzFrom 64 (wd X k):=qR zf h;have h3:2^Lib.ctzFrom 64 (wd X k)<=wd X k:=by
       conv=>rhs;rw [hm]
       exact Nat.le_mul_of_pos_right _ zb
      omega
    rw [et] at WT;obtain⟨r,hr⟩:∃t,Lib.ctz 64 (wd X k)=t:=⟨_,rfl⟩;rw [hr] at WT HV D;obtain⟨a,ha⟩:∃a,wd X k=a:=⟨_,rfl⟩;rw [ha] at F WT hz;have R:=za WT;have af:((a:Int)==0)=false:=beq_eq_false_iff_ne.2 zb;have ag:((a:Int) !=0)=true:=by simp;omega
    have K:((k:Int)==(n:Int))=false:=beq_eq_false_iff_ne.2 zb;have J:zd (X≠0):=λe=>by
     rw [e] at ha;have:(0:Nat)=a:=by rw [<-ha];unfold wd;simp
     exact hz this.symm
    obtain⟨Y,hY⟩:∃Y,X / 2^(64*k+r)=Y:=⟨_,rfl⟩;have ac:zd (∀i,wd Y i=wd X (k+i) / 2^r+2^(64 - r)*(wd X (k+i+1)%2^r)):=λi=>by rw [<-hY];exact RU D
    have O:zd ((dg 18446744073709551616 Y).length<=n - k):=by show _;rw [<-hY];exact RT HX.o hk
    have ab:zd (Y=X / 2^wj X):=by show _=_;rw [<-hY,HV.o]
    obtain⟨N,hN⟩:∃N,n - k=N:=⟨_,rfl⟩;obtain⟨C,hC⟩:∃N,cap - k=N:=⟨_,rfl⟩;rw [hN] at O;have V:=za (show N+k=n by omega);have hck:¬(cap=k):=zb;have hNp:0<N:=zb;have i3:(k:Int)<=(n:Int):=zb;clear WT hr ha et U hY HV H;go_wp2_with fail;refine R.o.mono ?_;rintro e w' ⟨rfl,rfl⟩;go_wp2_with fail;have Q:zF w ty g cap n (v7 Y L 0):=by rw [TL];exact HR.o
    have P:=yv.refl g w;clear af ag K F hz R
    go_loopg [34] (N+1) (λgg ix wr=>∃i:Nat,i<=N/\N<gg+i/\ix=.int .i64 i/\zF wr ty g cap n (v7 Y L i)/\yv g w wr)
    case atStart=>exact⟨0,zb,zb,rfl,Q,P⟩
    case round=>
     clear Q P;obtain⟨i,hi,hgg,rfl,hR,hO⟩:=hrel;have hNn:=V.o;have j0:(0:Int)<=(i:Int):=zb;by_cases T:i<N
     ·have z:i<n:=zb;have hw:=ac.o i;have G:=wJ X (k+i);have M:=wJ X (k+i+1);have k1:=hR.cell (k+i) zb;rw [Wl zb,I.o] at k1;have k2:=hR.cell i z;have k3:=hR.frozen i;have j1:(i:Int)<(N:Int):=zb;have j2:(i:Int)<(n:Int):=zb;have j3:IntKind.i64.wrap (64 - (r:Int))=64 - (r:Int):=QP _ zb;have j4:IntKind.i64.wrap ((i:Int)+1)=(i:Int)+1:=QP _ zb;obtain⟨b,hb⟩:∃b,wd X (k+i+1)=b:=⟨_,rfl⟩;obtain⟨v,hv⟩:∃b,wd X (k+i)=b:=⟨_,rfl⟩;obtain⟨u,hu⟩:∃b,(v7 Y L i).getD i 0=b:=⟨_,rfl⟩;rw [hv] at k1 hw G;rw [hb] at hw M;rw [hu] at k2;have e1:(v:Int) / 2^r=((v / 2^r:Nat):Int):=zA;have d:=hR.set_ i (v / 2^r) z;rw [<-e1] at d;have E:=hO.set_ i (.int .u64 ((v:Int) / 2^r));have hll:=HL.o;by_cases hi1:i+1<N
      ·have m1:=d.cell i z;rw [Ym (by rw [RQ zb];omega),<-e1] at m1;have m2:=hR.cell (k+(i+1)) zb;rw [Wl zb,I.o,show wd X (k+(i+1))=b from by rw [<-xA];exact hb] at m2;have m3:=d.frozen i;have j5:(i:Int)+1<(N:Int):=zb;have j6:((i:Int)+1).toNat=i+1:=zb;have j7:(0:Int)<=(i:Int)+1:=zb;have hc:=VN (b:=b) G D;have y:=d.drew.set_ i (v / 2^r+2^(64 - r)*(b%2^r)) z;rw [<-hc,RS zb,<-hw,X9 zb] at y;have aa:=za y;have B:=(qz E).set_ i (.int .u64 (bits .or .u64 ((v:Int) / 2^r) (IntKind.u64.wrap ((b:Int)*2^(64 - r)))));have Z:=za B;clear y B d E hR hO hc e1 hw hb hv hu G M;go_wp2_with fail;go_region;go_wp2;go_roundg (N - i)
       case measure=>omega
       case rel=>exact⟨i+1,zb,zb,by go_num,aa.o,Z.o⟩
      ·have ad:b=0:=by
        rw [<-hb,show k+i+1=n from by omega];unfold wd;rw [xE HX.o]
       rw [ad,Nat.zero_mod,yC,XD] at hw;rw [<-hw,X9 zb] at d;have s:=za d;have o:=za E;have j5:¬((i:Int)+1<(N:Int)):=zb;clear d E hR hO e1 hw hb hv hu G M;go_wp2;go_roundg (N - i)
       case measure=>omega
       case rel=>exact⟨i+1,zb,zb,by go_num,s.o,o.o⟩
     ·have T:i=N:=zb;subst T;have HF:∀L',L'=vN Y i++List.replicate k 0->zd (zG 18446744073709551616 L'/\dv 18446744073709551616 L'=X / 2^wj X):=λL' e=>by
       subst e;refine⟨(Wb _ _).append (zG.zeros zf _),?_⟩;rw [tF,jR,yC,XD,Wa O.o,ab.o]
      have j:=za (HF _ rfl);clear HF;have q1:n - i=k:=zb;have q2:(i:Int)<=(n:Int):=zb;rcases xQ k with hk0|hkp
      ·subst hk0;have z:i=n:=zb;subst z;have s:zd (zF wr ty g cap i (vN Y i++List.replicate 0 0)):=by
        show zF _ _ _ _ _ _;rw [show v7 Y L i=vN Y i++List.replicate 0 0 from by unfold v7;rw [xC (by rw [HL.o];exact qX _)];rfl] at hR;exact hR
       have o:=za hO;have ae:∀(t:TypeId) (A:ze) (c:Nat),(Builtin.clear_ #[46] t #[.slice A 0 c]).run prog wr=.ok (.tuple #[]) wr:=λt A c=>SZ t wr;clear hR hO;by_cases hce:cap=i
       ·go_wp2;go_ret;exact .inr ⟨J.o,_,rfl,s.o,j.o.o.1,j.o.o.2,o.o⟩
       ·go_wp2;go_ret;exact .inr ⟨J.o,_,rfl,s.o,j.o.o.1,j.o.o.2,o.o⟩
      ·have hci:¬(cap=i):=zb;obtain⟨W2,ae,y,B⟩:=Se (c:=cap - i) (k:=i) (m:=k) (A:=vN Y i) (C:=L.drop i) hR (lA _ _) (by rw [xZ,HL.o];omega) hkp;have s:=za y;have o:=za (hO.trans B);clear hR hO y B;go_wp2;go_ret;exact .inr ⟨J.o,_,rfl,s.o,j.o.o.1,j.o.o.2,o.o⟩
  ·have K:k=n:=zb;subst K;have HZ:zd (X=0):=by
    show _=_;have h2:=H.o;rw [qO HX.o] at h2;exact h2
   go_wp2;go_ret;exact .inl ⟨HZ.o,rfl,rfl⟩
attribute [local go_sem] Oper.semAt_some
def s8 (I:Nat->World->Prop)(X:World->Prop)(k:Nat)(W:World):Exit->Act->World->Prop:=λe _ W'=>KeepsOthers W W'/\(e=.normal/\I k W'\/e=.ret/\X W')
def Wc (P:Program)(gf:Nat)(lb:Array Value)(enc:Nat->Array Value)(N:Nat)(I:Nat->World->Prop):Prop:=
 ∀ (l : Nat) (J : Nat → World → Prop) (Jx : World → Prop) (W : World),(∀ k W,J k W → I k W) →
  (∀k W,k<N->J (k+1) W->YieldAt Fence.wide 1 P l (enc k) W λe W'=>e=.returned (.bool true)/\J k W'\/e=.returned (.bool false)/\Jx W')->
  J N W->CallsIn Fence.wide 2 P gf (#[.func (.yield l) #[] #[]]++lb) W λe W'=>(∃v,e=.returned v)/\(J 0 W'\/Jx W')
theorem Vj {X:World->Prop}{o:Obj}(hX:OwnFrom w.heap.size (fun(_:Unit) W=>X W))(h:X W)(hb:w.heap.size<=b)(ho:W.heap[b]?=some o)(hc:o.isCells=false)(o':Obj):X (W.putObj b o'):=
 hX.putObj (s:=()) o' h hb ho hc
theorem Pf {P:Program}{g:Operand}{ps:Array Tmp}{assign body:Code}{Q:Exit->Act->World->Prop}{a:Act}{gf:Nat}{lb:Array Value}(hg:a.eval g=.func (.func gf) #[] lb)
  (eg:∀args w,(callFunc gf args).run P w=.ok (.enter gf args) w) (N:Nat) (d:Nat->Array Value) (A:∀k,(d k).size=ps.size) (I:Nat->World->Prop) (X:World->Prop) (hI:∀k,OwnFrom w.heap.size (fun(_:Unit) W=>I k W)) (hX:OwnFrom w.heap.size (fun(_:Unit) W=>X W)) (h0:I N w)
  (m:Wc P gf lb d N I) (a1:Nat->Act)
  (c:∀(l k:Nat) (W:World) (K:Act->World->Prop),K (a1 k) W->assign.wpIn (Fence.wide.inRound l) 1 P (Exit.then K (λ_ _ _=>False)) {tmps:=(ps.zip (d k)).foldl (λt (p,v)=>t.setIfInBounds p v) a.tmps,defers:=[]} W)
  (i:∀(l k:Nat) (W:World),k<N->I (k+1) W->body.wpIn (Fence.wide.inRound l) 1 P (s8 I X k W) (a1 k) W)
  (j:∀(D:Nat) (W:World),w.heap.size<=D->I 0 W->W.heap[D]?=some (.deferred (some []))->Q .normal {a with defers:={target:=.collected D,args:=#[]}::a.defers} W)
  (s:∀(D:Nat) (W:World),w.heap.size<=D->X W->W.heap[D]?=some (.deferred (some []))->Code.ret.wpIn Fence.wide 3 P Q {a with defers:={target:=.collected D,args:=#[]}::a.defers} W):
  (Code.rangeFunc g ps assign body).wpIn Fence.wide 3 P Q a w:=by
 refine wpIn_rangeFunc λfn z=>?_;obtain⟨r,hr⟩:∃r:Loop,r={state:=.ready,pending:=none,fn,tmps:=a.tmps,params:=ps,assign,body,defers:=w.heap.size}:=⟨_,rfl⟩;obtain⟨V,hV⟩:∃V,(w.alloc (.deferred (some []))).alloc (.loop r)=V:=⟨_,rfl⟩;have gV:w.grownBy V none:=by rw [<-hV];exact(jQ w _ none).trans (jQ _ _ none)
 have rV:V.heap[w.heap.size+1]?=some (.loop r):=by
  have h:=World.alloc_heap_new (w.alloc (.deferred (some []))) (.loop r);rw [YL,hV] at h;exact h
 have dV:V.heap[w.heap.size]?=some (.deferred (some [])):=by
  have h:=World.alloc_heap_new w (.deferred (some []));rw [<-hV,Below.heap_alloc _ _ _ zA];exact h
 have iV:I N V:=hI N () w V none h0 gV (λ_ e=>by cases e);refine⟨w.heap.size+1,[{target:=.collected w.heap.size,args:=#[]}],V,{target:=.fn (.func gf) lb,args:=#[.func (.yield (w.heap.size+1)) #[] #[]]},V,gf,#[.func (.yield (w.heap.size+1)) #[] #[]]++lb,V,?_,?_,λ_ _=>trivial,?_,λ_=>by omega,?_⟩
 ·rw [<-hV,hr];exact run_enterLoop_outer _ _ _ _ _
 ·simp only [resolve,hg];simp [go_sem]
 ·simp [invoke,go_sem,eg]
 obtain⟨rx,o⟩:∃rx:Loop,rx={r with state:=.done,pending:=some .ret}:=⟨_,rfl⟩;refine (m (w.heap.size + 1) (fun k W => I k W ∧ W.heap[w.heap.size + 1]? = some (.loop r) ∧ W.heap[w.heap.size]? = some (.deferred (some [])))
  (λW=>X W/\W.heap[w.heap.size+1]?=some (.loop rx)/\W.heap[w.heap.size]?=some (.deferred (some []))) V (λ_ _ h=>h.1) ?_ ⟨iV,rV,dV⟩).mono ?_
 ·rintro k W hk ⟨iW,rW,dW⟩;have hy:=run_yield (P:=P) (args:=d k) rW (by rw [hr];exact A k);have lt:=(Array.getElem?_eq_some_iff.1 rW).1;obtain⟨rb,n⟩:∃rb:Loop,rb={r with state:=.busy}:=⟨_,rfl⟩;have rY:(W.putObj (w.heap.size+1) (.loop rb)).heap[w.heap.size+1]?=some (.loop rb):=World.putObj_heap_same lt;have dX:(W.putObj (w.heap.size+1) (.loop rb)).heap[w.heap.size]?=some (.deferred (some [])):=(World.putObj_heap_other zb).trans dW;have iX:I (k+1) (W.putObj (w.heap.size+1) (.loop rb)):=jV hI iW zb rW rfl _;rw [hr] at hy;refine⟨fn,_,assign,body,hy,roundIn_of_wpIn z (c _ k W _ ⟨_,by have h:=run_beginRound (P:=P) rW (by rw [hr]);rw [<-n] at h;exact h,?_⟩)⟩;refine wpIn_mono (i _ k _ hk iX) ?_;rintro e a3 W3 ⟨u,h3⟩;have r3:=u.same _ _ rY rfl;have d3:=u.same _ _ dX rfl;have y:=(Array.getElem?_eq_some_iff.1 r3).1;rcases h3 with⟨rfl,i3⟩|⟨rfl,x3⟩
  ·have he:=run_endRound (P:=P) none r3;refine⟨_,_,he,.inl ⟨rfl,jV hI i3 zb r3 rfl _,?_,(World.putObj_heap_other zb).trans d3⟩⟩;rw [World.putObj_heap_same y,n,hr];rfl
  ·have he:=run_endRound (P:=P) (some .ret) r3;refine⟨_,_,he,.inr ⟨rfl,Vj hX x3 zb r3 rfl _,?_,(World.putObj_heap_other zb).trans d3⟩⟩;rw [World.putObj_heap_same y,o,n,hr];rfl
 ·rintro e W2 ⟨⟨v,rfl⟩,⟨i2,r2,d2⟩|⟨x2,r2,d2⟩⟩
  ·have he:=run_endLoop (P:=P) r2 (by rw [hr];simp);rw [show r.pending=none from by rw [hr]] at he;exact⟨none,_,he,j _ _ (qX _) (jV hI i2 zb r2 rfl _) ((World.putObj_heap_other zb).trans d2)⟩
  ·have he:=run_endLoop (P:=P) r2 (by rw [o];simp);rw [show rx.pending=some .ret from by rw [o]] at he;exact⟨some .ret,_,he,s _ _ (qX _) (Vj hX x2 zb r2 rfl _) ((World.putObj_heap_other zb).trans d2)⟩
theorem Tu (Bs len cap:Nat)(A:ze)(v:Nat->Nat)(I:Nat->World->Prop)(hlen:len<=1099511627776)
  (c:∀k W,I k W->W.cell? ⟨Bs,0,none⟩=some (.slice A len cap)) (d:∀k W,k<len->I (k+1) W->∃ad,A=some ad/\W.cell? (ad.add k)=some (.int .u64 (v k:Int))):
  Wc prog 168 #[.pointer (some ⟨Bs,0,none⟩)] (λk=>#[.int .i64 (k:Int),.int .u64 (v k:Int)]) len I:=by
 intro l J Jx W hJ hY h0;have g:=c _ _ (hJ _ _ h0);have HB:=za (λk W (h:J k W)=>c k W (hJ k W h));have HC:=za (λk W (hk:k<len) (h:J (k+1) W)=>d k W hk (hJ _ _ h));have HY:=za hY;have H0:=za h0;have j:IntKind.i64.wrap ((len:Int) - 1)=(len:Int) - 1:=by rw [IntKind.wrap_i64];omega
 clear hJ hY h0 c d;refine callsIn_of_wp func168 rfl trivial ?_ rfl;simp only [ntmps168,XU,xJ,YM,Nat.reduceAdd,Nat.reduceSub,YT,YW,List.push_toArray,jY,XC,YD]
 gi_wp2
 clear g j
 gi_loopw [3] (λi wr=>∃k:Nat,k<=len/\i=.int .i64 ((k:Int) - 1)/\J k wr) (λi _=>(intOf i+1).toNat)
 case atStart=>exact⟨len,qX _,rfl,H0.o⟩
 case round=>
  obtain⟨k,hk,rfl,a⟩:=hrel;have hb:=HB.out _ _ a;rcases k with _|k
  ·rw [show((0:Nat):Int) - 1= -1 from by decide];clear hb
   gi_wp2
   go_end0
   exact⟨⟨_,rfl⟩,.inl a⟩
  ·obtain⟨ad,rfl,hc⟩:=HC.o k wr hk a;obtain⟨fn,tmps,assign,body,hy,hR⟩:=HY.o k wr hk a;rw [show((k+1:Nat):Int) - 1=(k:Int) from by omega];have i1:(0:Int)<=(k:Int):=zb;have i2:(k:Int)<(len:Int):=zb;have i3:IntKind.i64.wrap ((k:Int) - 1)=(k:Int) - 1:=by rw [IntKind.wrap_i64];omega
   obtain⟨z,hz⟩:∃z,v k=z:=⟨_,rfl⟩
   try dsimp only at hy
   rw [hz] at hc hy;clear hz a
   gi_wp2
   refine hR.mono ?_;rintro e W3 (⟨rfl,hJ3⟩|⟨rfl,hJ3⟩)
   ·gi_wp2
    go_roundw
    case rel=>exact⟨k,zb,rfl,hJ3⟩
    case measure=>simp [intOf]
   ·gi_wp2
    refine bodyPost_ret (results_none rfl _ _ _) rfl ?_;exact⟨⟨_,rfl⟩,.inr hJ3⟩
attribute [local go_sem] Oper.semAt_some
def uI (L1 L2:List Nat)(n k:Nat):Prop:=∀i,k<=i->i<n->L1.getD i 0=L2.getD i 0
theorem uI.start (L1 L2:List Nat)(n:Nat):uI L1 L2 n n:=λi h h'=>absurd h' zb
theorem uI.step (h:uI L1 L2 n (k+1))(e:L1.getD k 0=L2.getD k 0):uI L1 L2 n k:=λi hi hn=>by
 rcases XQ k i with h1|h1
 ·exact h i zb hn
 ·have:i=k:=zb;rw [this];exact e
theorem uI.high (h:uI L1 L2 n k)(h1:L1.length=n)(h2:L2.length=n):L1.drop k=L2.drop k:=by
 refine YP (by simp;omega) (λi a b=>?_);simp at a b;have:=h (k+i) zb zb;rw [qQ,qQ,qY zb,qY zb] at this;simpa using this
theorem uI.all (h:uI L1 L2 n 0)(h1:L1.length=n)(h2:L2.length=n):L1=L2:=by
 have:=h.high h1 h2;simpa using this
theorem uI.less (h:uI L1 L2 n (k+1))(h1:L1.length=n)(h2:L2.length=n)(d1:zG 18446744073709551616 L1)(d2:zG 18446744073709551616 L2)(a:L1.getD k 0<L2.getD k 0):dv 18446744073709551616 L1<dv 18446744073709551616 L2:=by
 have e:=h.high h1 h2;have e1:=congrArg (dv 18446744073709551616) e;rw [im zf d1,im zf d2] at e1;rw [jl zf d1,jl zf d2] at a;exact ZP e1 a
theorem uI.symm (h:uI L1 L2 n k):uI L2 L1 n k:=λi a b=>(h i a b).symm
structure sV (ty ty2:TypeId)(g1 g2 c1 c2 n q0 q1 q2:Nat)(L1 L2:List Nat)(w:World)(k:Nat)(W:World):Prop where
 same:uI L1 L2 n k
 ybox:zh W q0 46 #[.slice (some ⟨g2,0,none⟩) n c2]
 res:zh W q1 4 #[.bool false]
 seq:zh W q2 46 #[.slice (some ⟨g1,0,none⟩) n c1]
 r1:zF W ty g1 c1 n L1
 r2:zF W ty2 g2 c2 n L2
 below:Below w.heap.size w W
theorem sV.own {a:TypeId}{g1 g2 c1 c2 q0 q2:Nat}(hB:w.heap.size<=B)(k:Nat):OwnFrom B (fun(_:Unit) W=>sV ty a g1 g2 c1 c2 n q0 q1 q2 L1 L2 w k W):=by
 intro _ W W' row h hg hr;exact⟨h.same,uC h.ybox hg hr,uC h.res hg hr,uC h.seq hg hr,jM h.r1 hg hr,jM h.r2 hg hr,fX h.below (qX _) hB hg hr⟩
structure oV (q1:Nat)(b:Bool)(w:World)(W:World):Prop where
 res:zh W q1 4 #[.bool b]
 below:Below w.heap.size w W
theorem oV.own {b:Bool}(hB:w.heap.size<=B):OwnFrom B (fun(_:Unit) W=>oV q1 b w W):=by
 intro _ W W' row h hg hr;exact⟨uC h.res hg hr,fX h.below (qX _) hB hg hr⟩
theorem R1 (ty t:TypeId)(g1 g2 c1 c2 n:Nat)(L1 L2:List Nat)(w:World)(h1:zF w ty g1 c1 n L1)(h2:zF w t g2 c2 n L2)(B:zG 18446744073709551616 L1)(C:zG 18446744073709551616 L2)(hn:n<=1099511627776):
  Calls prog 156 #[.slice (some ⟨g1,0,none⟩) n c1,.slice (some ⟨g2,0,none⟩) n c2] w λe w'=>e=.returned (.bool (decide (dv 18446744073709551616 L1<dv 18446744073709551616 L2)))/\Below w.heap.size w w':=by
 have j:=za h1.len;have m:=za h2.len;have u:=za B;have y:=za C;have H:=za h1;have I:=za h2;obtain⟨v,hv⟩:∃v,decide (dv 18446744073709551616 L1<dv 18446744073709551616 L2)=v:=⟨_,rfl⟩;rw [hv];have HV:=za hv;clear h1 h2 B C hv;refine(callsIn_wide (n:=3)).1 ?_;refine callsIn_of_wp_marks func156 rfl trivial ?_ rfl;simp only [ntmps156,XU,xJ,YM,Nat.reduceAdd,Nat.reduceSub,YT,YW,List.push_toArray,jY,XC,YD];refine wpIn_wide.2 ?_;go_wp2_with fail;obtain⟨d1,d2,d3,d4,d5⟩:=y9 w 46 4 46 #[.slice (some ⟨g2,0,none⟩) n c2] #[.bool false] #[.slice (some ⟨g1,0,none⟩) n c1];refine(bI (some ⟨g1,0,none⟩) n c1 _).mono ?_;rintro e w2 ⟨rfl,F⟩;rw [F] at d1 d2 d3 d4 d5;obtain⟨z,hz⟩:∃z,w.heap.size=z:=⟨_,rfl⟩;have H0:=za (show sV ty t g1 g2 c1 c2 n z (z+1) (z+1+1) L1 L2 w n w2 from⟨uI.start _ _ _,by rw [<-hz];exact d2,by rw [<-hz];exact d3,by rw [<-hz];exact d4,H.o.keep d1,I.o.keep d1,d1⟩);have A:=d1.size;clear d1 d2 d3 d4 d5 F;go_wp2_with fail;refine(wpIn_wide (n:=3)).1 ?_;refine Pf (gf:=168) (lb:=#[.pointer (some ⟨z + 1 + 1,0,none⟩)]) rfl (enters_of func168 ye rfl) n (fun k => #[.int .i64 (k : Int),.int .u64 (L1.getD k 0 : Int)]) (fun _ => rfl)
  (λk W=>sV ty t g1 g2 c1 c2 n z (z+1) (z+1+1) L1 L2 w k W) (λW=>oV (z+1) v w W) (λk=>sV.own A k) (oV.own A) H0.o
  (Tu (z+1+1) n c1 (some ⟨g1,0,none⟩) (λk=>L1.getD k 0) _ hn (λk W h=>h.seq.cell 0) ?cells)
  (λk=>{tmps:=#[.slice (some ⟨g1,0,none⟩) n c1,.slice (some ⟨g2,0,none⟩) n c2,undef,.pointer (some ⟨z,0,none⟩),.pointer (some ⟨z+1,0,none⟩),.int .i64 (k:Int),.int .u64 (L1.getD k 0:Int),.slice (some ⟨g1,0,none⟩) n c1,.func (.func 168) #[] #[.pointer (some ⟨z+1+1,0,none⟩)],.int .i64 (k:Int),.int .u64 (L1.getD k 0:Int),undef,undef,undef,undef,undef,undef,undef,undef,undef,undef,undef,undef],defers:=[]}) ?assign ?body ?done ?stop
 case cells=>
  intro k W hk h;exact⟨_,rfl,by rw [ZZ,h.r1.cell k hk]⟩
 case assign=>
  intro l k W K hK
  gi_wp2
  exact hK
 case body=>
  intro l k W hk h;have g:=h.same;have hy:=h.ybox;have c:=h.res;have L:=h.seq;have J:=h.r1;have E:=h.r2;have d:=h.below;clear h;have cy:=hy.cell 0;have cr:=c.cell 0;have fr:=c.frozen 0;have cg:=E.cell k hk;have i1:(0:Int)<=(k:Int):=zb;have i2:(k:Int)<(n:Int):=zb;by_cases hxy:L1.getD k 0=L2.getD k 0
  ·have HS:=za (g.step hxy);rw [hxy];obtain⟨a,ha⟩:∃a,L2.getD k 0=a:=⟨_,rfl⟩;rw [ha] at cg⊢;clear g hxy ha
   gi_wp2
   exact⟨KeepsOthers.refl _,.inl ⟨rfl,HS.o,hy,c,L,J,E,d⟩⟩
  ·have HB:zd (decide (L1.getD k 0<L2.getD k 0)=v):=by
    show _=_;rw [<-HV.o,decide_eq_decide];rcases XQ (L1.getD k 0) (L2.getD k 0) with hlt|hge
    ·exact⟨λ_=>g.less j.o m.o u.o y.o hlt,λ_=>hlt⟩
    ·have h:=g.symm.less m.o j.o y.o u.o zb;exact⟨λh'=>absurd h' zb,λh'=>absurd h' zb⟩
   obtain⟨a,ha⟩:∃a,L1.getD k 0=a:=⟨_,rfl⟩;obtain⟨b,hb⟩:∃a,L2.getD k 0=a:=⟨_,rfl⟩;rw [ha] at HB hxy⊢;rw [hb] at HB hxy cg;have G:=HB;have hq1:((a:Int)==(b:Int))=false:=by rw [beq_eq_false_iff_ne];omega
   have hq2:((a:Int) !=(b:Int))=true:=by rw [bne_iff_ne];omega
   clear g ha hb HB hxy
   gi_wp2
   exact⟨KeepsOthers.setCell _ _ _,.inr ⟨rfl,(by first|exact fk c _|(rw [<-G.o];exact fk c _)),d.setCell (p:=⟨z+1,0,none⟩) (by show w.heap.size<=z+1;omega) _⟩⟩
 case done=>
  intro D W hD h hK;have d:=h.below;have c:=h.res;have M:zd (v=false):=by
   show _=_;rw [<-HV.o,h.same.all j.o m.o];simp
  have cr:=c.cell 0;have fr:=c.frozen 0;have i:=c.set_ 0 (.bool false);have o:=(KeepsOthers.setCell W ⟨z+1,0,none⟩ (.bool false)).same D _ hK rfl;have s:=cell_kept (i.cell 0) (grownBy_putObj' _ D (.deferred none)) (λr e=>by cases e;exact⟨_,o,rfl⟩);have HG : zd (Below w.heap.size w ((W.setCell ⟨z + 1,0,none⟩ (.bool false)).putObj D (.deferred none))) :=
   (d.setCell (p:=⟨z+1,0,none⟩) (by show w.heap.size<=z+1;omega) _).trans (belowK_b (w:=w) (qX _) _ D _ _ zb o rfl rfl)
  clear h c d i hK;go_wp2;refine⟨zA,.inl ⟨_,_,rfl,run_takeDeferred o,?_⟩⟩;exact⟨.bool false,by simp [results,f156,go_sem,s],by rw [M.o],HG.o⟩
 case stop=>
  intro D W hD h hK;have d:=h.below;have cr:=h.res.cell 0;have s:=cell_kept cr (grownBy_putObj' _ D (.deferred none)) (λr e=>by cases e;exact⟨_,hK,rfl⟩);have HG : zd (Below w.heap.size w (W.putObj D (.deferred none))) :=
   d.trans (belowK_b (w:=w) (qX _) _ D _ _ zb hK rfl rfl)
  clear h d
  gi_wp2
  refine⟨zA,.inl ⟨_,_,rfl,run_takeDeferred hK,?_⟩⟩;exact⟨.bool v,by simp [results,f156,go_sem,s],rfl,HG.o⟩
