/- What this claim leans on. -/
import Derived.Test.YtielpgdebeggbaaGreatDoorMBunY
import Derived.Laws.IdiomCopy
set_option linter.unusedVariables false
set_option linter.unusedSimpArgs false
namespace Go.Proofs.YtielpgdebeggbaaGreatDoor
open Go Go.RowKit Go.Proofs.Tryz
set_option maxHeartbeats 16000000
variable {L L1 L2 P:List Nat}{B X Y b d g i k n q1 x:Nat}{ty:TypeId}{W w:World}
theorem Qr (m:Nat):(Builtin.zeroCells #[Value.int .u64 0] m).toList=List.replicate m (Value.int .u64 0):=by
 refine yI (by simp [Builtin.zeroCells]) (λi h1 h2=>?_);simp [Builtin.zeroCells,XZ]
theorem WW {ty:TypeId}{g cap n:Nat}:∀(m k:Nat) (L:List Nat) (W:World),zJ W ty g cap n L->k+m<=n->
  zJ (W.setCells g k (List.replicate m (Value.int .u64 0))) ty g cap n (L.take k++List.replicate m 0++L.drop (k+m))/\yw g W (W.setCells g k (List.replicate m (Value.int .u64 0)))
 |0,k,L,W,h,hk=>by
   refine⟨?_,yw.refl g W⟩;simp only [List.replicate_zero,List.append_nil,XH,YA,World.setCells];exact h
 |m+1,k,L,W,h,hk=>by
   have hl:=h.len;obtain⟨h1,h2⟩:=WW m (k+1) (L.set k 0) (W.setCell ⟨g,k,none⟩ (.int .u64 ((0:Nat):Int))) (h.set_ k 0 za) za;rw [kw _ _ _ za] at h1;have e:(L.set k 0).drop (k+1+m)=L.drop (k+(m+1)):=by
    rw [<-List.drop_drop,gh,List.drop_drop];congr 1;omega
   rw [e] at h1;refine⟨?_,(yw.set_ (yw.refl g W) k _).trans h2⟩;rw [List.replicate_succ (a:=(0:Nat)),show L.take k++0::List.replicate m 0=L.take k++[0]++List.replicate m 0 by simp];exact h1
theorem RB {cap k m c:Nat}{A C:List Nat}(h:zJ W ty g cap n (A++C))(hA:A.length=k)(hC:C.length=m)(hm:0<m):
  ∃W2,(∀t:TypeId,(Builtin.clear_ #[46] t #[.slice (some ⟨g,k,none⟩) m c]).run prog W=.ok (.tuple #[]) W2)/\zJ W2 ty g cap n (A++List.replicate m 0)/\yw g W W2:=by
 obtain⟨i0,d,i,hz1,hz2⟩:=info_parts nF;have hl:=h.len;rw [qB,hA,hC] at hl;obtain⟨h1,h2⟩:=WW m k (A++C) W h za;rw [xE (by rw [qB];omega),List.append_nil,<-hA,jJ,hA] at h1;have a:=run_storeCells_cells (P:=prog) g k (List.replicate m (Value.int .u64 0)) 0 W
  (λj hj=>by rw [yA] at hj;rw [XH,h.cell (k+j) za];rfl) (λj _=>h.frozen _) (λv hv=>by rw [List.eq_of_mem_replicate hv];rfl)
 refine⟨_,λt=>?_,h1,h2⟩;obtain⟨m,rfl⟩:∃r,m=r+1:=⟨m - 1,za⟩;have hz:=Qr (m+1);rw [XH] at a;simp [Builtin.clear_,run_underlying underlying46,zeroValue,typeInfo,d,i,hz,a,Value.cells]
theorem Qa {c:Nat}{A:ze}(t:TypeId)(W:World):(Builtin.clear_ #[46] t #[.slice A 0 c]).run prog W=.ok (.tuple #[]) W:=by
 cases A<;>simp [Builtin.clear_,run_underlying underlying46]
set_option maxRecDepth 100000
structure vK (P L:List Nat)(k:Nat)(q:List Nat)(b:Nat):Prop where
 len:q.length=P.length
 dgs:zK 18446744073709551616 q
 carry:b<=1
 val:dv 18446744073709551616 (q.take k)+dv 18446744073709551616 (L.take k)=dv 18446744073709551616 (P.take k)+18446744073709551616^k*b
 rest:∀i,k<=i->q.getD i 0=P.getD i 0
theorem vK.start (P L:List Nat)(h:zK 18446744073709551616 P):vK P L 0 P 0:=⟨rfl,h,za,by simp [dv],λ_ _=>rfl⟩
theorem mg {q:List Nat}(h:zK b q)(hd:d<b):zK b (q.set k d):=λx hx=>by
 rcases xJ hx with h1|h1
 ·exact h x h1
 ·rw [h1];exact hd
theorem Wi {q:List Nat}(h:k<q.length):(q.set k d).getD k 0=d:=by
 simp [qQ,h]
theorem SD {q:List Nat}(h:k≠i):(q.set k d).getD i 0=q.getD i 0:=by
 simp [qQ,h]
theorem SE (q:List Nat)(k d:Nat):(q.set k d).take k=q.take k:=List.take_set_of_le (qX k)
theorem vK.step {q:List Nat}{d b':Nat}(h:vK P L k q b)(hk:k<P.length)(hd:d<18446744073709551616)(hb:b'<=1)(hs:d+L.getD k 0+b=q.getD k 0+18446744073709551616*b'):vK P L (k+1) (q.set k d) b':=by
 refine⟨by simpa using h.len,mg h.dgs hd,hb,?_,λi hi=>by rw [SD za];exact h.rest i za⟩;have hv:=h.val;have hr:=h.rest k (qX k);rw [uJ,uJ,uJ,SE,Wi (by rw [h.len];exact hk),QD];rw [hr] at hs;obtain⟨B,hB⟩:∃B,18446744073709551616^k=B:=⟨_,rfl⟩;rw [hB] at hv⊢;have e:B*d+B*L.getD k 0+B*b=B*P.getD k 0+B*18446744073709551616*b':=by
  rw [<-QQ,<-QQ,hs,QQ,qL]
 omega
theorem vK.done {L q:List Nat}(h:vK P L P.length q b)(hL:L.length=P.length)(hle:dv 18446744073709551616 L<=dv 18446744073709551616 P):dv 18446744073709551616 q=dv 18446744073709551616 P - dv 18446744073709551616 L:=by
 have hv:=h.val;have hq:=vv h.dgs;rw [h.len] at hq;rw [qV (by rw [h.len];exact qX _),qV za,qV (qX _)] at hv;rcases (show b=0\/b=1 by have:=h.carry;omega) with rfl|rfl
 ·omega
 ·omega
def rJ (w:World)(ty:TypeId)(g cap n X:Nat)(e:Ending)(w':World):Prop:=
 ∃(v:Value) (L:List Nat),e=.returned v/\zJ w' ty g cap n L/\zK 18446744073709551616 L/\dv 18446744073709551616 L=X/\yw g w w'
theorem Rj (a b c:Nat)(ha:a<18446744073709551616)(hb:b<18446744073709551616)(hc:c<=1):∃d c':Nat,d<18446744073709551616/\c'<=1/\d+b+c=a+18446744073709551616*c'/\
  ∀w:World,(callFunc 166 #[.int .u64 a,.int .u64 b,.int .u64 c]).run prog w=.ok (.value (.tuple #[.int .u64 (d:Int),.int .u64 (c':Int)])) w:=by
 obtain⟨d,c',e1,e2,h1,h2,h3⟩:=Yp ha hb hc;refine⟨d,c',h1,h2,h3,λw=>?_⟩;have h:=ki a b c ⟨za,za⟩ ⟨za,za⟩ za za w;rw [e1,e2] at h;exact h
theorem Wa (ty o:TypeId)(g g2 c1 c2 n:Nat)(L1 L2:List Nat)(w:World)(hR:zJ w ty g c1 n L1)(h2:zJ w o g2 c2 n L2)(E:g2≠g)(h:zK 18446744073709551616 L1)(k:zK 18446744073709551616 L2)
  (m:dv 18446744073709551616 L2<=dv 18446744073709551616 L1) (hn:n<=1099511627776):
  Calls prog 157 #[.slice (some ⟨g,0,none⟩) n c1,.slice (some ⟨g2,0,none⟩) n c2] w (rJ w ty g c1 n (dv 18446744073709551616 L1 - dv 18446744073709551616 L2)):=by
 have j:=zb hR.len;have v:=zb h2.len;have s:=zb k;have y:=zb m;have HI:=zb (vK.start L1 L2 h);have HO:=yw.refl g w;clear h k m;go_enter func157,ntmps157;go_wp2_with fail
 go_loopg [4,9] (n+1) (λgg bo ix wr=>∃(i b:Nat) (q:List Nat),i<=n/\n<gg+i/\ix=.int .i64 i/\bo=.int .u64 b/\zd (vK L1 L2 i q b)/\zJ wr ty g c1 n q/\zJ wr o g2 c2 n L2/\yw g w wr)
 case atStart=>exact⟨0,0,L1,qM _,za,rfl,rfl,HI,hR,h2,HO⟩
 case round=>
  clear hR HI HO h2;obtain⟨i,bb,q,hin,hgg,rfl,rfl,HI,hR,h2,hO⟩:=hrel;have hI:=HI.o;by_cases hlt:i<n
  ·have k1:=hR.cell i hlt;have k2:=h2.cell i hlt;have k3:=hR.frozen i;obtain⟨d,b',h,C,hx,hS⟩:=Rj (q.getD i 0) (L2.getD i 0) bb (hI.dgs.getD zf i) (s.o.getD zf i) hI.carry;have B:=zb (hI.step (by rw [j.o];exact hlt) h C hx);have A:=zb (hR.set_ i d hlt);have z:=zb (hO.set_ i (.int .u64 (d:Int)));have u:=zb (h2.far (p:=⟨g,i,none⟩) E (.int .u64 (d:Int)));obtain⟨a,ha⟩:∃b,q.getD i 0=b:=⟨_,rfl⟩;obtain⟨b,hb⟩:∃b,L2.getD i 0=b:=⟨_,rfl⟩;rw [ha] at k1 hS;rw [hb] at k2 hS;have i1:(0:Int)<=(i:Int):=za;have i2:(i:Int)<(n:Int):=za;clear ha hb hx hI HI hR h2 hO;go_wp2;go_roundg (n - i)
   case measure=>omega
   case rel=>exact⟨i+1,b',_,za,za,by go_num,rfl,B,A.o,u.o,z.o⟩
  ·have D:i=n:=za;subst D;have HV:zd (dv 18446744073709551616 q=dv 18446744073709551616 L1 - dv 18446744073709551616 L2):=by
    have e:=j.o;rw [<-e] at hI;exact hI.done (by rw [v.o,e]) y.o
   have t:=zb hI.dgs;clear hI HI;go_wp2
   go_end0
   exact⟨_,q,rfl,hR,t.o,HV.o,hO⟩
theorem Zx {s:Nat}(h:L.getD s 0=0):dv 18446744073709551616 (L.take (s+1))=dv 18446744073709551616 (L.take s):=by
 rw [uJ,h,yT,XH]
theorem Rt {a:Nat}(ha:a<18446744073709551616)(hb:b<18446744073709551616)(h:¬(a=0/\b=0)):∃c:Nat,bits .or .u64 (a:Int) (b:Int)=(c:Int)/\c≠0:=by
 refine⟨a|||b,bits_or_u64_nat _ _ ha hb,λe=>h ?_⟩;exact Nat.or_eq_zero_iff.1 e
def rH (w:World)(g1 g2 c1 c2 n:Nat)(L1 L2:List Nat)(e:Ending)(w':World):Prop:=
 ∃ s : Nat,1 ≤ s ∧ s ≤ n ∧ e = .returned (.tuple #[.slice (some ⟨g1,0,none⟩) s c1,.slice (some ⟨g2,0,none⟩) s c2]) ∧
  dv 18446744073709551616 (L1.take s)=dv 18446744073709551616 L1/\dv 18446744073709551616 (L2.take s)=dv 18446744073709551616 L2/\Below w.heap.size w w'
theorem ST (ty t:TypeId)(g1 g2 c1 c2 n:Nat)(L1 L2:List Nat)(w:World)(h1:zJ w ty g1 c1 n L1)(h2:zJ w t g2 c2 n L2)(m:zK 18446744073709551616 L1)(o:zK 18446744073709551616 L2)
  (hx:dv 18446744073709551616 L1≠0) (hn:n<=1099511627776):
  Calls prog 155 #[.slice (some ⟨g1,0,none⟩) n c1,.slice (some ⟨g2,0,none⟩) n c2] w (rH w g1 g2 c1 c2 n L1 L2):=by
 have hn0:1<=n:=by
  rcases QW n with e|e
  ·have:=h1.len;rw [QV (this.trans e)] at hx;exact absurd rfl hx
  ·exact e
 have hr1:=h1.room.1;have hr2:=h2.room.1;have hb:=qZ w.heap.size w;have HX:=zb hx;have v:=zb m;have y:=zb o;have d:zd (dv 18446744073709551616 (L1.take n)=dv 18446744073709551616 L1):=by show _=_;rw [qV (by rw [h1.len];exact qX _)]
 have g:zd (dv 18446744073709551616 (L2.take n)=dv 18446744073709551616 L2):=by show _=_;rw [qV (by rw [h2.len];exact qX _)]
 clear hx m o;go_enter func155,ntmps155;go_wp2_with fail
 go_loopg [6] (n+1) (λgg u wr=>∃s:Nat,s+1<=n/\s<gg/\u=.int .i64 ((s:Int)+1)/\zd (dv 18446744073709551616 (L1.take (s+1))=dv 18446744073709551616 L1)/\zd (dv 18446744073709551616 (L2.take (s+1))=dv 18446744073709551616 L2)/\zJ wr ty g1 c1 n L1/\zJ wr t g2 c2 n L2/\Below w.heap.size w wr)
 case atStart=>
  obtain⟨s,rfl⟩:∃s,n=s+1:=⟨n - 1,za⟩;exact⟨s,za,za,zF,d,g,h1,h2,hb⟩
 case round=>
  clear d g h1 h2 hb;obtain⟨s,hs,hgg,rfl,d,g,h1,h2,hb⟩:=hrel;have k1:=h1.cell s za;have k2:=h2.cell s za;have i1:(0:Int)<=(s:Int):=za;have i2:(s:Int)<(n:Int):=za;have i3:(s:Int)+1 - 1=(s:Int):=za;have i4:IntKind.i64.wrap (s:Int)=(s:Int):=QL _ za;have i:=v.o.getD zf s;have j:=y.o.getD zf s;by_cases hz:L1.getD s 0=0/\L2.getD s 0=0
  ·obtain⟨z1,z2⟩:=hz;have hs0:s≠0:=λe=>by
    subst e;have h:=d.o;rw [Zx z1] at h;exact HX.o (by rw [<-h];rfl)
   obtain⟨s,rfl⟩:∃r,s=r+1:=⟨s - 1,za⟩;have d:zd (dv 18446744073709551616 (L1.take (s+1))=dv 18446744073709551616 L1):=(Zx z1).symm.trans d.o;have g:zd (dv 18446744073709551616 (L2.take (s+1))=dv 18446744073709551616 L2):=(Zx z2).symm.trans g.o;rw [z1] at k1;rw [z2] at k2;have ho:bits .or .u64 ((0:Nat):Int) ((0:Nat):Int)=0:=zf;clear z1 z2 i j;go_wp2_with fail;go_region;go_wp2;go_roundg (s+1)
   case measure=>omega
   case rel=>exact⟨s,za,za,by go_num,d,g,h1.drew,h2.drew,hb.drew⟩
  ·obtain⟨c,ho,hc0⟩:=Rt i j hz;obtain⟨a,ha⟩:∃a,L1.getD s 0=a:=⟨_,rfl⟩;obtain⟨b,k⟩:∃b,L2.getD s 0=b:=⟨_,rfl⟩;rw [ha] at k1 ho;rw [k] at k2 ho;have hcz:((c:Int)==0)=false:=by simp;omega
   have j1:(s:Int)+1<=(c1:Int):=za;have j2:(s:Int)+1<=(c2:Int):=za;have j3:(0:Int)<=(s:Int)+1:=za;have j4:((s:Int)+1).toNat=s+1:=za;clear ha k hz i j;go_wp2_with fail;go_region;go_wp2_with fail;go_region;go_wp2
   go_ret2
   exact⟨s+1,za,hs,by first|rfl|simp,d.o,g.o,hb.drew.drew⟩
theorem PG {y:Nat}(h:Nat.gcd x y=g):Nat.gcd y (x%y)=g:=by
 rw [<-h,yW x y,Nat.gcd_rec y x,yW]
theorem PH (h:Nat.gcd x 0=g):x=g:=by rw [<-h,Nat.gcd_zero_right]
theorem V5 (x y:Nat)(w:World)(hx:x<18446744073709551616)(hy:y<18446744073709551616):
  Calls prog 136 #[.int .u64 x,.int .u64 y] w λe w'=>e=.returned (.int .u64 (Nat.gcd x y:Nat))/\Below w.heap.size w w':=by
 have hB:=qZ w.heap.size w;obtain⟨g,hg⟩:∃g,Nat.gcd x y=g:=⟨_,rfl⟩;rw [hg];have HG:=zb hg;clear hg;go_enter func136,ntmps136;go_wp2_with fail
 go_loopg [0,1] (y+1) (λgg s0 s1 wr=>∃(a b:Nat),a<18446744073709551616/\b<18446744073709551616/\b<gg/\s0=.int .u64 a/\s1=.int .u64 b/\zd (Nat.gcd a b=g)/\Below w.heap.size w wr)
 case atStart=>exact⟨x,y,hx,hy,za,rfl,rfl,HG,hB⟩
 case round=>
  clear hx hy HG hB;obtain⟨a,b,ha,hb,hgg,rfl,rfl,HG,hB⟩:=hrel;rcases QW b with rfl|hpos
  ·have HE:=zb (PH HG.o);clear HG;go_wp2;go_ret;exact⟨by rw [HE.o];rfl,hB⟩
  ·have HE:=zb (PG HG.o);have hz:((b:Int)==0)=false:=by simp;omega
   have hz2:((b:Int) !=0)=true:=by simp;omega
   have hz3:¬((b:Int)=0):=za;have hm:(a:Int).tmod b=((a%b:Nat):Int):=by rw [XB za];exact(Int.natCast_emod _ _).symm
   have d:a%b<b:=xD _ hpos;have h:(a:Int)%b=((a%b:Nat):Int):=(Int.natCast_emod _ _).symm;obtain⟨r,hr⟩:∃r,a%b=r:=⟨_,rfl⟩;rw [hr] at hm d HE h;clear HG hr;go_wp2_with fail;go_region;go_wp2;go_roundg b
   case measure=>omega
   case rel=>exact⟨b,r,hb,za,d,rfl,by go_num,HE,by first|exact hB|exact hB.drew⟩
theorem pI {w':World}(h:yw g w w'):yw g w w'.drew:=⟨h.os,h.tape,h.output,h.size,h.block⟩
def uh (Y:Nat)(L:List Nat)(i:Nat):List Nat:=vT Y i++L.drop i
theorem Pt (h:i<=L.length):(uh Y L i).length=L.length:=by simp [uh,kn];omega
theorem V2 (h:i<=k):(uh Y L i).getD k 0=L.getD k 0:=by
 obtain⟨j,rfl⟩:∃j,k=i+j:=⟨k - i,za⟩;simp only [uh,qQ];rw [QJ (by rw [kn];omega),kn,yK,yE]
theorem Pu (h:i<L.length):(uh Y L i).set i d=vT Y i++d::L.drop (i+1):=by
 unfold uh;rw [yB _ _ (by rw [kn];omega),kn,XK,yS h,qP]
theorem Pv {e:Nat}(h:i<L.length):((uh Y L i).set i d).set i e=(uh Y L i).set i e:=by simp [List.set_set]
theorem WK (h:i<L.length):(uh Y L i).set i (wd Y i)=uh Y L (i+1):=by
 rw [Pu h];unfold uh;rw [Zt,xQ];rfl
theorem Rh (Y:Nat)(L:List Nat):uh Y L 0=L:=by simp [uh,vT]
theorem Px {q r:Nat}(hr:r<64):wd (X / 2^(64*q+r)) i=wd X (q+i) / 2^r+2^(64 - r)*(wd X (q+i+1)%2^r):=by
 have h:=oI X (64*q+r) i;rw [show(64*q+r) / 64=q from by omega,show(64*q+r)%64=r from by omega] at h;exact h
theorem Pw {q r:Nat}(hX:X<18446744073709551616^n)(hq:q<=n):(dg 18446744073709551616 (X / 2^(64*q+r))).length<=n - q:=by
 refine lI zf _ _ ?_;have e:(18446744073709551616:Nat)^q=2^(64*q):=by rw [show(18446744073709551616:Nat)=2^64 from rfl,<-jK]
 rw [xW,<-XN,<-e];refine QI (xN _ _) ((QA (yZ zf)).2 ?_);rw [<-xW,Nat.sub_add_cancel hq];exact hX
def kL (w:World)(ty:TypeId)(g cap n X:Nat)(e:Ending)(w':World):Prop:=
 (X=0/\e=.returned (.bool false)/\w=w')\/(X≠0/\∃L,e=.returned (.bool true)/\zJ w' ty g cap n L/\zK 18446744073709551616 L/\dv 18446744073709551616 L=X / 2^wA X/\yw g w w')
theorem Uk (ty:TypeId)(g cap n:Nat)(L:List Nat)(w:World)(hR:zJ w ty g cap n L)(hd:zK 18446744073709551616 L)(hn:n<=1099511627776)(hT:zu w):
  Calls prog 158 #[.slice (some ⟨g,0,none⟩) n cap] w (kL w ty g cap n (dv 18446744073709551616 L)):=by
 have hl:=hR.len;have hX:=vv hd;rw [hl] at hX;have HW:∀k,L.getD k 0=wd (dv 18446744073709551616 L) k:=λk=>ik zf hd k;obtain⟨X,S⟩:∃X,dv 18446744073709551616 L=X:=⟨_,rfl⟩;rw [S] at hX HW⊢;have HX:=zb hX;have I:=zb HW;have HL:=zb hl;have hnc:=hR.room.1;have HT:=zb hT;have HR:=zb hR;clear hX HW hl S hT hR;go_enter func158,ntmps158;go_wp2_with fail
 go_loop [3] (λix=>∃k:Nat,k<=n/\ix=.int .i64 k/\zd (X%18446744073709551616^k=0)) (λix=>n - (intOf ix).toNat)
 case atStart=>exact⟨0,qM _,rfl,by show _=_;simp [XZ]⟩
 case round=>
  obtain⟨k,hk,rfl,H⟩:=hrel;have i1:(0:Int)<=(k:Int):=za;by_cases hlt:k<n
  ·have F:=HR.o.cell k hlt;rw [I.o] at F;have i2:(k:Int)<(n:Int):=za;by_cases hz:wd X k=0
   ·have HN:zd (X%18446744073709551616^(k+1)=0):=by
     show _=_;rw [ue 18446744073709551616 X k,H.o,xH];unfold wd at hz;rw [hz,yT]
    rw [hz] at F;clear hz;go_wp2
    go_round
    case rel=>exact⟨k+1,za,by go_num,HN⟩
    case measure=>simp [intOf];omega
   ·have HV:=zb (TP H.o hz);have U:=wU X k;have WT:=TO ((wd X k:Nat):Int) ⟨za,za⟩ w HT.o;have et:il ((wd X k:Nat):Int)=((Lib.ctz 64 (wd X k):Nat):Int):=by unfold il;simp
    have D:Lib.ctz 64 (wd X k)<64:=by
     obtain⟨m,hm,hc⟩:=Lib.ctzFrom_spec 64 (wd X k) za (by simpa using U);have ec:Lib.ctz 64 (wd X k)=Lib.ctzFrom 64 (wd X k):=by unfold Lib.ctz;rw [if_neg hz]
     rw [ec];rcases xG (Lib.ctzFrom 64 (wd X k)) 64 with h|h
     ·exact h
     ·have h2:2^64<=2^Lib.ctzFrom 64 (wd X k):=qA zf h;have h3:2^Lib.ctzFrom 64 (wd X k)<=wd X k:=by
       conv=>rhs;rw [hm]
       exact Nat.le_mul_of_pos_right _ za
      omega
    rw [et] at WT;obtain⟨r,hr⟩:∃t,Lib.ctz 64 (wd X k)=t:=⟨_,rfl⟩;rw [hr] at WT HV D;obtain⟨a,ha⟩:∃a,wd X k=a:=⟨_,rfl⟩;rw [ha] at F WT hz;have R:=zb WT;have af:((a:Int)==0)=false:=beq_eq_false_iff_ne.2 za;have ag:((a:Int) !=0)=true:=by simp;omega
    have K:((k:Int)==(n:Int))=false:=beq_eq_false_iff_ne.2 za;have J:zd (X≠0):=λe=>by
     rw [e] at ha;have:(0:Nat)=a:=by rw [<-ha];unfold wd;simp
     exact hz this.symm
    obtain⟨Y,hY⟩:∃Y,X / 2^(64*k+r)=Y:=⟨_,rfl⟩;have ac:zd (∀i,wd Y i=wd X (k+i) / 2^r+2^(64 - r)*(wd X (k+i+1)%2^r)):=λi=>by rw [<-hY];exact Px D
    have O:zd ((dg 18446744073709551616 Y).length<=n - k):=by show _;rw [<-hY];exact Pw HX.o hk
    have ab:zd (Y=X / 2^wA X):=by show _=_;rw [<-hY,HV.o]
    obtain⟨N,hN⟩:∃N,n - k=N:=⟨_,rfl⟩;obtain⟨C,hC⟩:∃N,cap - k=N:=⟨_,rfl⟩;rw [hN] at O;have V:=zb (show N+k=n by omega);have hck:¬(cap=k):=za;have hNp:0<N:=za;have i3:(k:Int)<=(n:Int):=za;clear WT hr ha et U hY HV H;go_wp2_with fail;refine R.o.mono ?_;rintro e w' ⟨rfl,rfl⟩;go_wp2_with fail;have Q:zJ w ty g cap n (uh Y L 0):=by rw [Rh];exact HR.o
    have P:=yw.refl g w;clear af ag K F hz R
    go_loopg [34] (N+1) (λgg ix wr=>∃i:Nat,i<=N/\N<gg+i/\ix=.int .i64 i/\zJ wr ty g cap n (uh Y L i)/\yw g w wr)
    case atStart=>exact⟨0,za,za,rfl,Q,P⟩
    case round=>
     clear Q P;obtain⟨i,hi,hgg,rfl,hR,hO⟩:=hrel;have hNn:=V.o;have j0:(0:Int)<=(i:Int):=za;by_cases T:i<N
     ·have z:i<n:=za;have hw:=ac.o i;have G:=wU X (k+i);have M:=wU X (k+i+1);have k1:=hR.cell (k+i) za;rw [V2 za,I.o] at k1;have k2:=hR.cell i z;have k3:=hR.frozen i;have j1:(i:Int)<(N:Int):=za;have j2:(i:Int)<(n:Int):=za;have j3:IntKind.i64.wrap (64 - (r:Int))=64 - (r:Int):=QL _ za;have j4:IntKind.i64.wrap ((i:Int)+1)=(i:Int)+1:=QL _ za;obtain⟨b,hb⟩:∃b,wd X (k+i+1)=b:=⟨_,rfl⟩;obtain⟨v,hv⟩:∃b,wd X (k+i)=b:=⟨_,rfl⟩;obtain⟨u,hu⟩:∃b,(uh Y L i).getD i 0=b:=⟨_,rfl⟩;rw [hv] at k1 hw G;rw [hb] at hw M;rw [hu] at k2;have e1:(v:Int) / 2^r=((v / 2^r:Nat):Int):=zF;have d:=hR.set_ i (v / 2^r) z;rw [<-e1] at d;have E:=hO.set_ i (.int .u64 ((v:Int) / 2^r));have hll:=HL.o;by_cases hi1:i+1<N
      ·have m1:=d.cell i z;rw [Wi (by rw [Pt za];omega),<-e1] at m1;have m2:=hR.cell (k+(i+1)) za;rw [V2 za,I.o,show wd X (k+(i+1))=b from by rw [<-xC];exact hb] at m2;have m3:=d.frozen i;have j5:(i:Int)+1<(N:Int):=za;have j6:((i:Int)+1).toNat=i+1:=za;have j7:(0:Int)<=(i:Int)+1:=za;have hc:=UG (b:=b) G D;have y:=d.drew.set_ i (v / 2^r+2^(64 - r)*(b%2^r)) z;rw [<-hc,Pv za,<-hw,WK za] at y;have aa:=zb y;have B:=(pI E).set_ i (.int .u64 (bits .or .u64 ((v:Int) / 2^r) (IntKind.u64.wrap ((b:Int)*2^(64 - r)))));have Z:=zb B;clear y B d E hR hO hc e1 hw hb hv hu G M;go_wp2_with fail;go_region;go_wp2;go_roundg (N - i)
       case measure=>omega
       case rel=>exact⟨i+1,za,za,by go_num,aa.o,Z.o⟩
      ·have ad:b=0:=by
        rw [<-hb,show k+i+1=n from by omega];unfold wd;rw [xM HX.o]
       rw [ad,Nat.zero_mod,yT,XH] at hw;rw [<-hw,WK za] at d;have s:=zb d;have o:=zb E;have j5:¬((i:Int)+1<(N:Int)):=za;clear d E hR hO e1 hw hb hv hu G M;go_wp2;go_roundg (N - i)
       case measure=>omega
       case rel=>exact⟨i+1,za,za,by go_num,s.o,o.o⟩
     ·have T:i=N:=za;subst T;have HF:∀L',L'=vT Y i++List.replicate k 0->zd (zK 18446744073709551616 L'/\dv 18446744073709551616 L'=X / 2^wA X):=λL' e=>by
       subst e;refine⟨(WO _ _).append (zK.zeros zf _),?_⟩;rw [tU,iU,yT,XH,WN O.o,ab.o]
      have j:=zb (HF _ rfl);clear HF;have q1:n - i=k:=za;have q2:(i:Int)<=(n:Int):=za;rcases QW k with hk0|hkp
      ·subst hk0;have z:i=n:=za;subst z;have s:zd (zJ wr ty g cap i (vT Y i++List.replicate 0 0)):=by
        show zJ _ _ _ _ _ _;rw [show uh Y L i=vT Y i++List.replicate 0 0 from by unfold uh;rw [xE (by rw [HL.o];exact qX _)];rfl] at hR;exact hR
       have o:=zb hO;have ae:∀(t:TypeId) (A:ze) (c:Nat),(Builtin.clear_ #[46] t #[.slice A 0 c]).run prog wr=.ok (.tuple #[]) wr:=λt A c=>Qa t wr;clear hR hO;by_cases hce:cap=i
       ·go_wp2;go_ret;exact .inr ⟨J.o,_,rfl,s.o,j.o.o.1,j.o.o.2,o.o⟩
       ·go_wp2;go_ret;exact .inr ⟨J.o,_,rfl,s.o,j.o.o.1,j.o.o.2,o.o⟩
      ·have hci:¬(cap=i):=za;obtain⟨W2,ae,y,B⟩:=RB (c:=cap - i) (k:=i) (m:=k) (A:=vT Y i) (C:=L.drop i) hR (kn _ _) (by rw [QE,HL.o];omega) hkp;have s:=zb y;have o:=zb (hO.trans B);clear hR hO y B;go_wp2;go_ret;exact .inr ⟨J.o,_,rfl,s.o,j.o.o.1,j.o.o.2,o.o⟩
  ·have K:k=n:=za;subst K;have HZ:zd (X=0):=by
    show _=_;have h2:=H.o;rw [qC HX.o] at h2;exact h2
   go_wp2;go_ret;exact .inl ⟨HZ.o,rfl,rfl⟩
attribute [local go_sem] Oper.semAt_some
def rF (I:Nat->World->Prop)(X:World->Prop)(k:Nat)(W:World):Exit->Act->World->Prop:=λe _ W'=>KeepsOthers W W'/\(e=.normal/\I k W'\/e=.ret/\X W')
def VS (P:Program)(gf:Nat)(lb:Array Value)(enc:Nat->Array Value)(N:Nat)(I:Nat->World->Prop):Prop:=
 ∀ (l : Nat) (J : Nat → World → Prop) (Jx : World → Prop) (W : World),(∀ k W,J k W → I k W) →
  (∀k W,k<N->J (k+1) W->YieldAt Fence.wide 1 P l (enc k) W λe W'=>e=.returned (.bool true)/\J k W'\/e=.returned (.bool false)/\Jx W')->
  J N W->CallsIn Fence.wide 2 P gf (#[.func (.yield l) #[] #[]]++lb) W λe W'=>(∃v,e=.returned v)/\(J 0 W'\/Jx W')
theorem VM {X:World->Prop}{o:Obj}(hX:OwnFrom w.heap.size (fun(_:Unit) W=>X W))(h:X W)(hb:w.heap.size<=b)(ho:W.heap[b]?=some o)(hc:o.isCells=false)(o':Obj):X (W.putObj b o'):=
 hX.putObj (s:=()) o' h hb ho hc
theorem Oy {P:Program}{g:Operand}{ps:Array Tmp}{assign body:Code}{Q:Exit->Act->World->Prop}{a:Act}{gf:Nat}{lb:Array Value}(hg:a.eval g=.func (.func gf) #[] lb)
  (eg:∀args w,(callFunc gf args).run P w=.ok (.enter gf args) w) (N:Nat) (i:Nat->Array Value) (B:∀k,(i k).size=ps.size) (I:Nat->World->Prop) (X:World->Prop) (hI:∀k,OwnFrom w.heap.size (fun(_:Unit) W=>I k W)) (hX:OwnFrom w.heap.size (fun(_:Unit) W=>X W)) (h0:I N w)
  (n:VS P gf lb i N I) (a1:Nat->Act)
  (d:∀(l k:Nat) (W:World) (K:Act->World->Prop),K (a1 k) W->assign.wpIn (Fence.wide.inRound l) 1 P (Exit.then K (λ_ _ _=>False)) {tmps:=(ps.zip (i k)).foldl (λt (p,v)=>t.setIfInBounds p v) a.tmps,defers:=[]} W)
  (j:∀(l k:Nat) (W:World),k<N->I (k+1) W->body.wpIn (Fence.wide.inRound l) 1 P (rF I X k W) (a1 k) W)
  (m:∀(D:Nat) (W:World),w.heap.size<=D->I 0 W->W.heap[D]?=some (.deferred (some []))->Q .normal {a with defers:={target:=.collected D,args:=#[]}::a.defers} W)
  (u:∀(D:Nat) (W:World),w.heap.size<=D->X W->W.heap[D]?=some (.deferred (some []))->Code.ret.wpIn Fence.wide 3 P Q {a with defers:={target:=.collected D,args:=#[]}::a.defers} W):
  (Code.rangeFunc g ps assign body).wpIn Fence.wide 3 P Q a w:=by
 refine wpIn_rangeFunc λfn A=>?_;obtain⟨r,hr⟩:∃r:Loop,r={state:=.ready,pending:=none,fn,tmps:=a.tmps,params:=ps,assign,body,defers:=w.heap.size}:=⟨_,rfl⟩;obtain⟨V,hV⟩:∃V,(w.alloc (.deferred (some []))).alloc (.loop r)=V:=⟨_,rfl⟩;have gV:w.grownBy V none:=by rw [<-hV];exact(jQ w _ none).trans (jQ _ _ none)
 have rV:V.heap[w.heap.size+1]?=some (.loop r):=by
  have h:=World.alloc_heap_new (w.alloc (.deferred (some []))) (.loop r);rw [YR,hV] at h;exact h
 have dV:V.heap[w.heap.size]?=some (.deferred (some [])):=by
  have h:=World.alloc_heap_new w (.deferred (some []));rw [<-hV,Below.heap_alloc _ _ _ zF];exact h
 have iV:I N V:=hI N () w V none h0 gV (λ_ e=>by cases e);refine⟨w.heap.size+1,[{target:=.collected w.heap.size,args:=#[]}],V,{target:=.fn (.func gf) lb,args:=#[.func (.yield (w.heap.size+1)) #[] #[]]},V,gf,#[.func (.yield (w.heap.size+1)) #[] #[]]++lb,V,?_,?_,λ_ _=>trivial,?_,λ_=>by omega,?_⟩
 ·rw [<-hV,hr];exact run_enterLoop_outer _ _ _ _ _
 ·simp only [resolve,hg];simp [go_sem]
 ·simp [invoke,go_sem,eg]
 obtain⟨rx,s⟩:∃rx:Loop,rx={r with state:=.done,pending:=some .ret}:=⟨_,rfl⟩;refine (n (w.heap.size + 1) (fun k W => I k W ∧ W.heap[w.heap.size + 1]? = some (.loop r) ∧ W.heap[w.heap.size]? = some (.deferred (some [])))
  (λW=>X W/\W.heap[w.heap.size+1]?=some (.loop rx)/\W.heap[w.heap.size]?=some (.deferred (some []))) V (λ_ _ h=>h.1) ?_ ⟨iV,rV,dV⟩).mono ?_
 ·rintro k W hk ⟨iW,rW,dW⟩;have hy:=run_yield (P:=P) (args:=i k) rW (by rw [hr];exact B k);have lt:=(Array.getElem?_eq_some_iff.1 rW).1;obtain⟨rb,o⟩:∃rb:Loop,rb={r with state:=.busy}:=⟨_,rfl⟩;have rY:(W.putObj (w.heap.size+1) (.loop rb)).heap[w.heap.size+1]?=some (.loop rb):=World.putObj_heap_same lt;have dX:(W.putObj (w.heap.size+1) (.loop rb)).heap[w.heap.size]?=some (.deferred (some [])):=(World.putObj_heap_other za).trans dW;have iX:I (k+1) (W.putObj (w.heap.size+1) (.loop rb)):=gi hI iW za rW rfl _;rw [hr] at hy;refine⟨fn,_,assign,body,hy,roundIn_of_wpIn A (d _ k W _ ⟨_,by have h:=run_beginRound (P:=P) rW (by rw [hr]);rw [<-o] at h;exact h,?_⟩)⟩;refine wpIn_mono (j _ k _ hk iX) ?_;rintro e a3 W3 ⟨y,h3⟩;have r3:=y.same _ _ rY rfl;have d3:=y.same _ _ dX rfl;have z:=(Array.getElem?_eq_some_iff.1 r3).1;rcases h3 with⟨rfl,i3⟩|⟨rfl,x3⟩
  ·have he:=run_endRound (P:=P) none r3;refine⟨_,_,he,.inl ⟨rfl,gi hI i3 za r3 rfl _,?_,(World.putObj_heap_other za).trans d3⟩⟩;rw [World.putObj_heap_same z,o,hr];rfl
  ·have he:=run_endRound (P:=P) (some .ret) r3;refine⟨_,_,he,.inr ⟨rfl,VM hX x3 za r3 rfl _,?_,(World.putObj_heap_other za).trans d3⟩⟩;rw [World.putObj_heap_same z,s,o,hr];rfl
 ·rintro e W2 ⟨⟨v,rfl⟩,⟨i2,r2,d2⟩|⟨x2,r2,d2⟩⟩
  ·have he:=run_endLoop (P:=P) r2 (by rw [hr];simp);rw [show r.pending=none from by rw [hr]] at he;exact⟨none,_,he,m _ _ (qX _) (gi hI i2 za r2 rfl _) ((World.putObj_heap_other za).trans d2)⟩
  ·have he:=run_endLoop (P:=P) r2 (by rw [s];simp);rw [show rx.pending=some .ret from by rw [s]] at he;exact⟨some .ret,_,he,u _ _ (qX _) (VM hX x2 za r2 rfl _) ((World.putObj_heap_other za).trans d2)⟩
theorem SI (Bs len cap:Nat)(A:ze)(v:Nat->Nat)(I:Nat->World->Prop)(hlen:len<=1099511627776)
  (d:∀k W,I k W->W.cell? ⟨Bs,0,none⟩=some (.slice A len cap)) (g:∀k W,k<len->I (k+1) W->∃ad,A=some ad/\W.cell? (ad.add k)=some (.int .u64 (v k:Int))):
  VS prog 168 #[.pointer (some ⟨Bs,0,none⟩)] (λk=>#[.int .i64 (k:Int),.int .u64 (v k:Int)]) len I:=by
 intro l J Jx W hJ hY h0;have j:=d _ _ (hJ _ _ h0);have HB:=zb (λk W (h:J k W)=>d k W (hJ k W h));have HC:=zb (λk W (hk:k<len) (h:J (k+1) W)=>g k W hk (hJ _ _ h));have HY:=zb hY;have H0:=zb h0;have m:IntKind.i64.wrap ((len:Int) - 1)=(len:Int) - 1:=by rw [IntKind.wrap_i64];omega
 clear hJ hY h0 d g;refine callsIn_of_wp func168 rfl trivial ?_ rfl;simp only [ntmps168,XG,xK,YM,Nat.reduceAdd,Nat.reduceSub,YT,YW,List.push_toArray,jX,XM,YP]
 gi_wp2
 clear j m
 gi_loopw [3] (λi wr=>∃k:Nat,k<=len/\i=.int .i64 ((k:Int) - 1)/\J k wr) (λi _=>(intOf i+1).toNat)
 case atStart=>exact⟨len,qX _,rfl,H0.o⟩
 case round=>
  obtain⟨k,hk,rfl,a⟩:=hrel;have hb:=HB.out _ _ a;rcases k with _|k
  ·rw [show((0:Nat):Int) - 1= -1 from by decide];clear hb
   gi_wp2
   go_end0
   exact⟨⟨_,rfl⟩,.inl a⟩
  ·obtain⟨ad,rfl,hc⟩:=HC.o k wr hk a;obtain⟨fn,tmps,assign,body,hy,hR⟩:=HY.o k wr hk a;rw [show((k+1:Nat):Int) - 1=(k:Int) from by omega];have i1:(0:Int)<=(k:Int):=za;have i2:(k:Int)<(len:Int):=za;have i3:IntKind.i64.wrap ((k:Int) - 1)=(k:Int) - 1:=by rw [IntKind.wrap_i64];omega
   obtain⟨z,hz⟩:∃z,v k=z:=⟨_,rfl⟩
   try dsimp only at hy
   rw [hz] at hc hy;clear hz a
   gi_wp2
   refine hR.mono ?_;rintro e W3 (⟨rfl,hJ3⟩|⟨rfl,hJ3⟩)
   ·gi_wp2
    go_roundw
    case rel=>exact⟨k,za,rfl,hJ3⟩
    case measure=>simp [intOf]
   ·gi_wp2
    refine bodyPost_ret (results_none rfl _ _ _) rfl ?_;exact⟨⟨_,rfl⟩,.inr hJ3⟩
attribute [local go_sem] Oper.semAt_some
def uQ (L1 L2:List Nat)(n k:Nat):Prop:=∀i,k<=i->i<n->L1.getD i 0=L2.getD i 0
theorem uQ.start (L1 L2:List Nat)(n:Nat):uQ L1 L2 n n:=λi h h'=>absurd h' za
theorem uQ.step (h:uQ L1 L2 n (k+1))(e:L1.getD k 0=L2.getD k 0):uQ L1 L2 n k:=λi hi hn=>by
 rcases xG k i with h1|h1
 ·exact h i za hn
 ·have:i=k:=za;rw [this];exact e
theorem uQ.high (h:uQ L1 L2 n k)(h1:L1.length=n)(h2:L2.length=n):L1.drop k=L2.drop k:=by
 refine yI (by simp;omega) (λi a b=>?_);simp at a b;have:=h (k+i) za za;rw [qQ,qQ,qY za,qY za] at this;simpa using this
theorem uQ.all (h:uQ L1 L2 n 0)(h1:L1.length=n)(h2:L2.length=n):L1=L2:=by
 have:=h.high h1 h2;simpa using this
theorem uQ.less (h:uQ L1 L2 n (k+1))(h1:L1.length=n)(h2:L2.length=n)(d1:zK 18446744073709551616 L1)(d2:zK 18446744073709551616 L2)(a:L1.getD k 0<L2.getD k 0):dv 18446744073709551616 L1<dv 18446744073709551616 L2:=by
 have e:=h.high h1 h2;have e1:=congrArg (dv 18446744073709551616) e;rw [gw zf d1,gw zf d2] at e1;rw [ik zf d1,ik zf d2] at a;exact Y8 e1 a
theorem uQ.symm (h:uQ L1 L2 n k):uQ L2 L1 n k:=λi a b=>(h i a b).symm
structure rz (ty ty2:TypeId)(g1 g2 c1 c2 n q0 q1 q2:Nat)(L1 L2:List Nat)(w:World)(k:Nat)(W:World):Prop where
 same:uQ L1 L2 n k
 ybox:zh W q0 46 #[.slice (some ⟨g2,0,none⟩) n c2]
 res:zh W q1 4 #[.bool false]
 seq:zh W q2 46 #[.slice (some ⟨g1,0,none⟩) n c1]
 r1:zJ W ty g1 c1 n L1
 r2:zJ W ty2 g2 c2 n L2
 below:Below w.heap.size w W
theorem rz.own {a:TypeId}{g1 g2 c1 c2 q0 q2:Nat}(hB:w.heap.size<=B)(k:Nat):OwnFrom B (fun(_:Unit) W=>rz ty a g1 g2 c1 c2 n q0 q1 q2 L1 L2 w k W):=by
 intro _ W W' row h hg hr;exact⟨h.same,uK h.ybox hg hr,uK h.res hg hr,uK h.seq hg hr,iJ h.r1 hg hr,iJ h.r2 hg hr,cQ h.below (qX _) hB hg hr⟩
structure nJ (q1:Nat)(b:Bool)(w:World)(W:World):Prop where
 res:zh W q1 4 #[.bool b]
 below:Below w.heap.size w W
theorem nJ.own {b:Bool}(hB:w.heap.size<=B):OwnFrom B (fun(_:Unit) W=>nJ q1 b w W):=by
 intro _ W W' row h hg hr;exact⟨uK h.res hg hr,cQ h.below (qX _) hB hg hr⟩
theorem PF (ty u:TypeId)(g1 g2 c1 c2 n:Nat)(L1 L2:List Nat)(w:World)(h1:zJ w ty g1 c1 n L1)(h2:zJ w u g2 c2 n L2)(C:zK 18446744073709551616 L1)(E:zK 18446744073709551616 L2)(hn:n<=1099511627776):
  Calls prog 156 #[.slice (some ⟨g1,0,none⟩) n c1,.slice (some ⟨g2,0,none⟩) n c2] w λe w'=>e=.returned (.bool (decide (dv 18446744073709551616 L1<dv 18446744073709551616 L2)))/\Below w.heap.size w w':=by
 have m:=zb h1.len;have o:=zb h2.len;have y:=zb C;have A:=zb E;have I:=zb h1;have J:=zb h2;obtain⟨v,hv⟩:∃v,decide (dv 18446744073709551616 L1<dv 18446744073709551616 L2)=v:=⟨_,rfl⟩;rw [hv];have HV:=zb hv;clear h1 h2 C E hv;refine(callsIn_wide (n:=3)).1 ?_;refine callsIn_of_wp_marks func156 rfl trivial ?_ rfl;simp only [ntmps156,XG,xK,YM,Nat.reduceAdd,Nat.reduceSub,YT,YW,List.push_toArray,jX,XM,YP];refine wpIn_wide.2 ?_;go_wp2_with fail;obtain⟨d1,d2,d3,d4,d5⟩:=xd w 46 4 46 #[.slice (some ⟨g2,0,none⟩) n c2] #[.bool false] #[.slice (some ⟨g1,0,none⟩) n c1];refine(Zj (some ⟨g1,0,none⟩) n c1 _).mono ?_;rintro e w2 ⟨rfl,G⟩;rw [G] at d1 d2 d3 d4 d5;obtain⟨z,hz⟩:∃z,w.heap.size=z:=⟨_,rfl⟩;have H0:=zb (show rz ty u g1 g2 c1 c2 n z (z+1) (z+1+1) L1 L2 w n w2 from⟨uQ.start _ _ _,by rw [<-hz];exact d2,by rw [<-hz];exact d3,by rw [<-hz];exact d4,I.o.keep d1,J.o.keep d1,d1⟩);have B:=d1.size;clear d1 d2 d3 d4 d5 G;go_wp2_with fail;refine(wpIn_wide (n:=3)).1 ?_;refine Oy (gf:=168) (lb:=#[.pointer (some ⟨z + 1 + 1,0,none⟩)]) rfl (enters_of func168 yd rfl) n (fun k => #[.int .i64 (k : Int),.int .u64 (L1.getD k 0 : Int)]) (fun _ => rfl)
  (λk W=>rz ty u g1 g2 c1 c2 n z (z+1) (z+1+1) L1 L2 w k W) (λW=>nJ (z+1) v w W) (λk=>rz.own B k) (nJ.own B) H0.o
  (SI (z+1+1) n c1 (some ⟨g1,0,none⟩) (λk=>L1.getD k 0) _ hn (λk W h=>h.seq.cell 0) ?cells)
  (λk=>{tmps:=#[.slice (some ⟨g1,0,none⟩) n c1,.slice (some ⟨g2,0,none⟩) n c2,undef,.pointer (some ⟨z,0,none⟩),.pointer (some ⟨z+1,0,none⟩),.int .i64 (k:Int),.int .u64 (L1.getD k 0:Int),.slice (some ⟨g1,0,none⟩) n c1,.func (.func 168) #[] #[.pointer (some ⟨z+1+1,0,none⟩)],.int .i64 (k:Int),.int .u64 (L1.getD k 0:Int),undef,undef,undef,undef,undef,undef,undef,undef,undef,undef,undef,undef],defers:=[]}) ?assign ?body ?done ?stop
 case cells=>
  intro k W hk h;exact⟨_,rfl,by rw [Y7,h.r1.cell k hk]⟩
 case assign=>
  intro l k W K hK
  gi_wp2
  exact hK
 case body=>
  intro l k W hk h;have i:=h.same;have hy:=h.ybox;have d:=h.res;have M:=h.seq;have L:=h.r1;have F:=h.r2;have g:=h.below;clear h;have cy:=hy.cell 0;have cr:=d.cell 0;have fr:=d.frozen 0;have cg:=F.cell k hk;have i1:(0:Int)<=(k:Int):=za;have i2:(k:Int)<(n:Int):=za;by_cases hxy:L1.getD k 0=L2.getD k 0
  ·have HS:=zb (i.step hxy);rw [hxy];obtain⟨a,ha⟩:∃a,L2.getD k 0=a:=⟨_,rfl⟩;rw [ha] at cg⊢;clear i hxy ha
   gi_wp2
   exact⟨KeepsOthers.refl _,.inl ⟨rfl,HS.o,hy,d,M,L,F,g⟩⟩
  ·have HB:zd (decide (L1.getD k 0<L2.getD k 0)=v):=by
    show _=_;rw [<-HV.o,decide_eq_decide];rcases xG (L1.getD k 0) (L2.getD k 0) with hlt|hge
    ·exact⟨λ_=>i.less m.o o.o y.o A.o hlt,λ_=>hlt⟩
    ·have h:=i.symm.less o.o m.o A.o y.o za;exact⟨λh'=>absurd h' za,λh'=>absurd h' za⟩
   obtain⟨a,ha⟩:∃a,L1.getD k 0=a:=⟨_,rfl⟩;obtain⟨b,hb⟩:∃a,L2.getD k 0=a:=⟨_,rfl⟩;rw [ha] at HB hxy⊢;rw [hb] at HB hxy cg;have H:=HB;have hq1:((a:Int)==(b:Int))=false:=by rw [beq_eq_false_iff_ne];omega
   have hq2:((a:Int) !=(b:Int))=true:=by rw [bne_iff_ne];omega
   clear i ha hb HB hxy
   gi_wp2
   exact⟨KeepsOthers.setCell _ _ _,.inr ⟨rfl,(by first|exact eJ d _|(rw [<-H.o];exact eJ d _)),g.setCell (p:=⟨z+1,0,none⟩) (by show w.heap.size<=z+1;omega) _⟩⟩
 case done=>
  intro D W hD h hK;have g:=h.below;have d:=h.res;have N:zd (v=false):=by
   show _=_;rw [<-HV.o,h.same.all m.o o.o];simp
  have cr:=d.cell 0;have fr:=d.frozen 0;have j:=d.set_ 0 (.bool false);have s:=(KeepsOthers.setCell W ⟨z+1,0,none⟩ (.bool false)).same D _ hK rfl;have t:=cell_kept (j.cell 0) (grownBy_putObj' _ D (.deferred none)) (λr e=>by cases e;exact⟨_,s,rfl⟩);have HG : zd (Below w.heap.size w ((W.setCell ⟨z + 1,0,none⟩ (.bool false)).putObj D (.deferred none))) :=
   (g.setCell (p:=⟨z+1,0,none⟩) (by show w.heap.size<=z+1;omega) _).trans (belowK_b (w:=w) (qX _) _ D _ _ za s rfl rfl)
  clear h d g j hK;go_wp2;refine⟨zF,.inl ⟨_,_,rfl,run_takeDeferred s,?_⟩⟩;exact⟨.bool false,by simp [results,f156,go_sem,t],by rw [N.o],HG.o⟩
 case stop=>
  intro D W hD h hK;have g:=h.below;have cr:=h.res.cell 0;have t:=cell_kept cr (grownBy_putObj' _ D (.deferred none)) (λr e=>by cases e;exact⟨_,hK,rfl⟩);have HG : zd (Below w.heap.size w (W.putObj D (.deferred none))) :=
   g.trans (belowK_b (w:=w) (qX _) _ D _ _ za hK rfl rfl)
  clear h g
  gi_wp2
  refine⟨zF,.inl ⟨_,_,rfl,run_takeDeferred hK,?_⟩⟩;exact⟨.bool v,by simp [results,f156,go_sem,t],rfl,HG.o⟩
