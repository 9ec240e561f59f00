/- What this claim leans on. -/
import Derived.Test.YtghpdeciaaagnaaGreatDoorQEDet
namespace Go.Proofs.YtghpdeciaaagnaaGreatDoor
open Go Go.RowKit Go.Proofs.Tryz
set_option maxHeartbeats 16000000
set_option linter.unusedVariables false
theorem zpj (m:Nat):(Builtin.zeroCells #[Value.int .u64 0] m).toList=List.replicate m (Value.int .u64 0):=by
 refine List.ext_getElem (by simp [Builtin.zeroCells]) (λi h1 h2=>?_);simp [Builtin.zeroCells,Nat.mod_one]
theorem zjP {ty:TypeId}{g cap n:Nat}:∀(m k:Nat) (L:List Nat) (W:World),zaq W ty g cap n L->k+m<=n->
  zaq (W.setCells g k (List.replicate m (Value.int .u64 0))) ty g cap n (L.take k++List.replicate m 0++L.drop (k+m))/\Off g W (W.setCells g k (List.replicate m (Value.int .u64 0)))
 |0,k,L,W,h,hk=>by
   refine⟨?_,Off.refl g W⟩;simp only [List.replicate_zero,List.append_nil,Nat.add_zero,List.take_append_drop,World.setCells];exact h
 |m+1,k,L,W,h,hk=>by
   have hl:=h.len;obtain⟨h1,h2⟩:=zjP m (k+1) (L.set k 0) (W.setCell ⟨g,k,none⟩ (.int .u64 ((0:Nat):Int))) (h.set_ k 0 om9) om9;rw [zdN _ _ _ om9] at h1;have e:(L.set k 0).drop (k+1+m)=L.drop (k+(m+1)):=by
    rw [<-List.drop_drop,zeW,List.drop_drop];congr 1;omega
   rw [e] at h1;refine⟨?_,(Off.set_ (Off.refl g W) k _).trans h2⟩;rw [List.replicate_succ (a:=(0:Nat)),show L.take k++0::List.replicate m 0=L.take k++[0]++List.replicate m 0 by simp];exact h1
theorem znq {ty:TypeId}{g cap n k m c:Nat}{A C:List Nat}{W:World}(h:zaq W ty g cap n (A++C))(hA:A.length=k)(hC:C.length=m)(hm:0<m):
  ∃W2,(∀t:TypeId,(Builtin.clear_ #[35] t #[.slice (some ⟨g,k,none⟩) m c]).run prog W=.ok (.tuple #[]) W2)/\zaq W2 ty g cap n (A++List.replicate m 0)/\Off g W W2:=by
 obtain⟨i0,b,d,hz1,hz2⟩:=info_parts zgD;have hl:=h.len;rw [List.length_append,hA,hC] at hl;obtain⟨h1,h2⟩:=zjP m k (A++C) W h om9;rw [List.drop_of_length_le (by rw [List.length_append];omega),List.append_nil,<-hA,List.take_left,hA] at h1;have a:=run_storeCells_cells (P:=prog) g k (List.replicate m (Value.int .u64 0)) 0 W
  (λj hj=>by rw [List.length_replicate] at hj;rw [Nat.add_zero,h.cell (k+j) om9];rfl) (λj _=>h.frozen _) (λv hv=>by rw [List.eq_of_mem_replicate hv];rfl)
 refine⟨_,λt=>?_,h1,h2⟩;obtain⟨m,rfl⟩:∃r,m=r+1:=⟨m - 1,om9⟩;have hz:=zpj (m+1);rw [Nat.add_zero] at a;simp [Builtin.clear_,run_underlying underlying35,zeroValue,typeInfo,b,d,hz,a,Value.cells]
theorem znU {c:Nat}{A:oA9}(t:TypeId)(W:World):(Builtin.clear_ #[35] t #[.slice A 0 c]).run prog W=.ok (.tuple #[]) W:=by
 cases A<;>simp [Builtin.clear_,run_underlying underlying35]
set_option maxRecDepth 100000
structure SubR (P L:List Nat)(k:Nat)(q:List Nat)(b:Nat):Prop where
 len:q.length=P.length
 dgs:Dgs 18446744073709551616 q
 carry:b<=1
 val:dv 18446744073709551616 (q.take k)+dv 18446744073709551616 (L.take k)=dv 18446744073709551616 (P.take k)+18446744073709551616^k*b
 rest:∀i,k<=i->q.getD i 0=P.getD i 0
theorem SubR.start (P L:List Nat)(h:Dgs 18446744073709551616 P):SubR P L 0 P 0:=⟨rfl,h,om9,by simp [dv],λ_ _=>rfl⟩
theorem dgs_set {b:Nat}{q:List Nat}{k d:Nat}(h:Dgs b q)(hd:d<b):Dgs b (q.set k d):=λx hx=>by
 rcases List.mem_or_eq_of_mem_set hx with h1|h1
 ·exact h x h1
 ·rw [h1];exact hd
theorem zgG {q:List Nat}{k d:Nat}(h:k<q.length):(q.set k d).getD k 0=d:=by
 simp [List.getD_eq_getElem?_getD,h]
theorem zlT {q:List Nat}{k i d:Nat}(h:k≠i):(q.set k d).getD i 0=q.getD i 0:=by
 simp [List.getD_eq_getElem?_getD,h]
theorem zlW (q:List Nat)(k d:Nat):(q.set k d).take k=q.take k:=List.take_set_of_le (Nat.le_refl k)
theorem SubR.step {P L q:List Nat}{k b d b':Nat}(h:SubR P L k q b)(hk:k<P.length)(hd:d<18446744073709551616)(hb:b'<=1)(hs:d+L.getD k 0+b=q.getD k 0+18446744073709551616*b'):SubR P L (k+1) (q.set k d) b':=by
 refine⟨by simpa using h.len,dgs_set h.dgs hd,hb,?_,λi hi=>by rw [zlT om9];exact h.rest i om9⟩;have hv:=h.val;have hr:=h.rest k (Nat.le_refl k);rw [zaW,zaW,zaW,zlW,zgG (by rw [h.len];exact hk),Nat.pow_succ];rw [hr] at hs;obtain⟨B,hB⟩:∃B,18446744073709551616^k=B:=⟨_,rfl⟩;rw [hB] at hv⊢;have e:B*d+B*L.getD k 0+B*b=B*P.getD k 0+B*18446744073709551616*b':=by
  rw [<-Nat.mul_add,<-Nat.mul_add,hs,Nat.mul_add,Nat.mul_assoc]
 omega
theorem SubR.done {P L q:List Nat}{b:Nat}(h:SubR P L P.length q b)(hL:L.length=P.length)(hle:dv 18446744073709551616 L<=dv 18446744073709551616 P):dv 18446744073709551616 q=dv 18446744073709551616 P - dv 18446744073709551616 L:=by
 have hv:=h.val;have hq:=zcP h.dgs;rw [h.len] at hq;rw [List.take_of_length_le (by rw [h.len];exact Nat.le_refl _),List.take_of_length_le om9,List.take_of_length_le (Nat.le_refl _)] at hv;rcases (show b=0\/b=1 by have:=h.carry;omega) with rfl|rfl
 ·omega
 ·omega
def TakesOff (w:World)(ty:TypeId)(g cap n X:Nat)(e:Ending)(w':World):Prop:=
 ∃(v:Value) (L:List Nat),e=.returned v/\zaq w' ty g cap n L/\Dgs 18446744073709551616 L/\dv 18446744073709551616 L=X/\Off g w w'
theorem znt (a b c:Nat)(ha:a<18446744073709551616)(hb:b<18446744073709551616)(hc:c<=1):∃d c':Nat,d<18446744073709551616/\c'<=1/\d+b+c=a+18446744073709551616*c'/\
  ∀w:World,(callFunc 232 #[.int .u64 a,.int .u64 b,.int .u64 c]).run prog w=.ok (.value (.tuple #[.int .u64 (d:Int),.int .u64 (c':Int)])) w:=by
 obtain⟨d,c',e1,e2,h1,h2,h3⟩:=zlV ha hb hc;refine⟨d,c',h1,h2,h3,λw=>?_⟩;have h:=sub64 a b c ⟨om9,om9⟩ ⟨om9,om9⟩ om9 om9 w;rw [e1,e2] at h;exact h
theorem zhl (ty k:TypeId)(g g2 c1 c2 n:Nat)(L1 L2:List Nat)(w:World)(hR:zaq w ty g c1 n L1)(h2:zaq w k g2 c2 n L2)(A:g2≠g)(c:Dgs 18446744073709551616 L1)(h:Dgs 18446744073709551616 L2)
  (j:dv 18446744073709551616 L2<=dv 18446744073709551616 L1) (hn:n<=1099511627776):
  Calls prog 222 #[.slice (some ⟨g,0,none⟩) n c1,.slice (some ⟨g2,0,none⟩) n c2] w (TakesOff w ty g c1 n (dv 18446744073709551616 L1 - dv 18446744073709551616 L2)):=by
 have f:=lh9 hR.len;have r:=lh9 h2.len;have l:=lh9 h;have s:=lh9 j;have HI:=lh9 (SubR.start L1 L2 c);have HO:=Off.refl g w;clear c h j;go_enter func222,ntmps222;go_wp2_with fail
 go_loopg [4,9] (n+1) (λgg bo ix wr=>∃(i b:Nat) (q:List Nat),i<=n/\n<gg+i/\ix=.int .i64 i/\bo=.int .u64 b/\Hid (SubR L1 L2 i q b)/\zaq wr ty g c1 n q/\zaq wr k g2 c2 n L2/\Off g w wr)
 case atStart=>exact⟨0,0,L1,Nat.zero_le _,om9,rfl,rfl,HI,hR,h2,HO⟩
 case round=>
  clear hR HI HO h2;obtain⟨i,bb,q,hin,hgg,rfl,rfl,HI,hR,h2,hO⟩:=hrel;have hI:=HI.out;by_cases hlt:i<n
  ·have k1:=hR.cell i hlt;have k2:=h2.cell i hlt;have k3:=hR.frozen i;obtain⟨d,b',c,y,hx,hS⟩:=znt (q.getD i 0) (L2.getD i 0) bb (hI.dgs.getD de9 i) (l.out.getD de9 i) hI.carry;have v:=lh9 (hI.step (by rw [f.out];exact hlt) c y hx);have u:=lh9 (hR.set_ i d hlt);have t:=lh9 (hO.set_ i (.int .u64 (d:Int)));have o:=lh9 (h2.far (p:=⟨g,i,none⟩) A (.int .u64 (d:Int)));obtain⟨a,ha⟩:∃b,q.getD i 0=b:=⟨_,rfl⟩;obtain⟨b,hb⟩:∃b,L2.getD i 0=b:=⟨_,rfl⟩;rw [ha] at k1 hS;rw [hb] at k2 hS;have i1:(0:Int)<=(i:Int):=om9;have i2:(i:Int)<(n:Int):=om9;clear ha hb hx hI HI hR h2 hO;go_wp2;go_roundg (n - i)
   case measure=>omega
   case rel=>exact⟨i+1,b',_,om9,om9,by go_num,rfl,v,u.out,o.out,t.out⟩
  ·have z:i=n:=om9;subst z;have HV:Hid (dv 18446744073709551616 q=dv 18446744073709551616 L1 - dv 18446744073709551616 L2):=by
    have e:=f.out;rw [<-e] at hI;exact hI.done (by rw [r.out,e]) s.out
   have m:=lh9 hI.dgs;clear hI HI;go_wp2
   go_end0
   exact⟨_,q,rfl,hR,m.out,HV.out,hO⟩
theorem zgg {L:List Nat}{s:Nat}(h:L.getD s 0=0):dv 18446744073709551616 (L.take (s+1))=dv 18446744073709551616 (L.take s):=by
 rw [zaW,h,Nat.mul_zero,Nat.add_zero]
theorem zni {a b:Nat}(ha:a<18446744073709551616)(hb:b<18446744073709551616)(h:¬(a=0/\b=0)):∃c:Nat,bits .or .u64 (a:Int) (b:Int)=(c:Int)/\c≠0:=by
 refine⟨a|||b,bits_or_u64_nat _ _ ha hb,λe=>h ?_⟩;exact Nat.or_eq_zero_iff.1 e
def Shortens (w:World)(g1 g2 c1 c2 n:Nat)(L1 L2:List Nat)(e:Ending)(w':World):Prop:=
 ∃ s : Nat,1 ≤ s ∧ s ≤ n ∧ e = .returned (.tuple #[.slice (some ⟨g1,0,none⟩) s c1,.slice (some ⟨g2,0,none⟩) s c2]) ∧
  dv 18446744073709551616 (L1.take s)=dv 18446744073709551616 L1/\dv 18446744073709551616 (L2.take s)=dv 18446744073709551616 L2/\Below w.heap.size w w'
theorem zmz (ty m:TypeId)(g1 g2 c1 c2 n:Nat)(L1 L2:List Nat)(w:World)(h1:zaq w ty g1 c1 n L1)(h2:zaq w m g2 c2 n L2)(k:Dgs 18446744073709551616 L1)(l:Dgs 18446744073709551616 L2)
  (hx:dv 18446744073709551616 L1≠0) (hn:n<=1099511627776):
  Calls prog 220 #[.slice (some ⟨g1,0,none⟩) n c1,.slice (some ⟨g2,0,none⟩) n c2] w (Shortens w g1 g2 c1 c2 n L1 L2):=by
 have hn0:1<=n:=by
  rcases Nat.eq_zero_or_pos n with e|e
  ·have:=h1.len;rw [List.eq_nil_of_length_eq_zero (this.trans e)] at hx;exact absurd rfl hx
  ·exact e
 have hr1:=h1.room.1;have hr2:=h2.room.1;have hb:=Below.refl w.heap.size w;have HX:=lh9 hx;have o:=lh9 k;have t:=lh9 l;have d:Hid (dv 18446744073709551616 (L1.take n)=dv 18446744073709551616 L1):=by show _=_;rw [List.take_of_length_le (by rw [h1.len];exact Nat.le_refl _)]
 have f:Hid (dv 18446744073709551616 (L2.take n)=dv 18446744073709551616 L2):=by show _=_;rw [List.take_of_length_le (by rw [h2.len];exact Nat.le_refl _)]
 clear hx k l;go_enter func220,ntmps220;go_wp2_with fail
 go_loopg [6] (n+1) (λgg u wr=>∃s:Nat,s+1<=n/\s<gg/\u=.int .i64 ((s:Int)+1)/\Hid (dv 18446744073709551616 (L1.take (s+1))=dv 18446744073709551616 L1)/\Hid (dv 18446744073709551616 (L2.take (s+1))=dv 18446744073709551616 L2)/\zaq wr ty g1 c1 n L1/\zaq wr m g2 c2 n L2/\Below w.heap.size w wr)
 case atStart=>
  obtain⟨s,rfl⟩:∃s,n=s+1:=⟨n - 1,om9⟩;exact⟨s,om9,om9,si9,d,f,h1,h2,hb⟩
 case round=>
  clear d f h1 h2 hb;obtain⟨s,hs,hgg,rfl,d,f,h1,h2,hb⟩:=hrel;have k1:=h1.cell s om9;have k2:=h2.cell s om9;have i1:(0:Int)<=(s:Int):=om9;have i2:(s:Int)<(n:Int):=om9;have i3:(s:Int)+1 - 1=(s:Int):=om9;have i4:IntKind.i64.wrap (s:Int)=(s:Int):=IntWalk.i64_in _ om9;have g:=o.out.getD de9 s;have i:=t.out.getD de9 s;by_cases hz:L1.getD s 0=0/\L2.getD s 0=0
  ·obtain⟨z1,z2⟩:=hz;have hs0:s≠0:=λe=>by
    subst e;have h:=d.out;rw [zgg z1] at h;exact HX.out (by rw [<-h];rfl)
   obtain⟨s,rfl⟩:∃r,s=r+1:=⟨s - 1,om9⟩;have d:Hid (dv 18446744073709551616 (L1.take (s+1))=dv 18446744073709551616 L1):=(zgg z1).symm.trans d.out;have f:Hid (dv 18446744073709551616 (L2.take (s+1))=dv 18446744073709551616 L2):=(zgg z2).symm.trans f.out;rw [z1] at k1;rw [z2] at k2;have ho:bits .or .u64 ((0:Nat):Int) ((0:Nat):Int)=0:=de9;clear z1 z2 g i;go_wp2_with fail;go_region;go_wp2;go_roundg (s+1)
   case measure=>omega
   case rel=>exact⟨s,om9,om9,by go_num,d,f,h1.drew,h2.drew,hb.drew⟩
  ·obtain⟨c,ho,hc0⟩:=zni g i hz;obtain⟨a,ha⟩:∃a,L1.getD s 0=a:=⟨_,rfl⟩;obtain⟨b,j⟩:∃b,L2.getD s 0=b:=⟨_,rfl⟩;rw [ha] at k1 ho;rw [j] at k2 ho;have hcz:((c:Int)==0)=false:=by simp;omega
   have j1:(s:Int)+1<=(c1:Int):=om9;have j2:(s:Int)+1<=(c2:Int):=om9;have j3:(0:Int)<=(s:Int)+1:=om9;have j4:((s:Int)+1).toNat=s+1:=om9;clear ha j hz g i;go_wp2_with fail;go_region;go_wp2_with fail;go_region;go_wp2
   go_ret2
   exact⟨s+1,om9,hs,by first|rfl|simp,d.out,f.out,hb.drew.drew⟩
theorem zqw {x y g:Nat}(h:Nat.gcd x y=g):Nat.gcd y (x%y)=g:=by
 rw [<-h,Nat.gcd_comm x y,Nat.gcd_rec y x,Nat.gcd_comm]
theorem zqx {x g:Nat}(h:Nat.gcd x 0=g):x=g:=by rw [<-h,Nat.gcd_zero_right]
theorem zku (x y:Nat)(w:World)(hx:x<18446744073709551616)(hy:y<18446744073709551616):
  Calls prog 195 #[.int .u64 x,.int .u64 y] w λe w'=>e=.returned (.int .u64 (Nat.gcd x y:Nat))/\Below w.heap.size w w':=by
 have hB:=Below.refl w.heap.size w;obtain⟨g,hg⟩:∃g,Nat.gcd x y=g:=⟨_,rfl⟩;rw [hg];have HG:=lh9 hg;clear hg;go_enter func195,ntmps195;go_wp2_with fail
 go_loopg [0,1] (y+1) (λgg s0 s1 wr=>∃(a b:Nat),a<18446744073709551616/\b<18446744073709551616/\b<gg/\s0=.int .u64 a/\s1=.int .u64 b/\Hid (Nat.gcd a b=g)/\Below w.heap.size w wr)
 case atStart=>exact⟨x,y,hx,hy,om9,rfl,rfl,HG,hB⟩
 case round=>
  clear hx hy HG hB;obtain⟨a,b,ha,hb,hgg,rfl,rfl,HG,hB⟩:=hrel;rcases Nat.eq_zero_or_pos b with rfl|hpos
  ·have HE:=lh9 (zqx HG.out);clear HG;go_wp2;go_ret;exact⟨by rw [HE.out];rfl,hB⟩
  ·have HE:=lh9 (zqw HG.out);have hz:((b:Int)==0)=false:=by simp;omega
   have hz2:((b:Int) !=0)=true:=by simp;omega
   have hz3:¬((b:Int)=0):=om9;have hm:(a:Int).tmod b=((a%b:Nat):Int):=by rw [Int.tmod_eq_emod_of_nonneg om9];exact(Int.natCast_emod _ _).symm
   have c:a%b<b:=Nat.mod_lt _ hpos;have d:(a:Int)%b=((a%b:Nat):Int):=(Int.natCast_emod _ _).symm;obtain⟨r,hr⟩:∃r,a%b=r:=⟨_,rfl⟩;rw [hr] at hm c HE d;clear HG hr;go_wp2_with fail;go_region;go_wp2;go_roundg b
   case measure=>omega
   case rel=>exact⟨b,r,hb,om9,c,rfl,by go_num,HE,by first|exact hB|exact hB.drew⟩
theorem off_drew {g:Nat}{w w':World}(h:Off g w w'):Off g w w'.drew:=⟨h.os,h.tape,h.output,h.size,h.block⟩
def zdo (Y:Nat)(L:List Nat)(i:Nat):List Nat:=zcp Y i++L.drop i
theorem zqm {Y i:Nat}{L:List Nat}(h:i<=L.length):(zdo Y L i).length=L.length:=by simp [zdo,zcB];omega
theorem zks {Y i k:Nat}{L:List Nat}(h:i<=k):(zdo Y L i).getD k 0=L.getD k 0:=by
 obtain⟨j,rfl⟩:∃j,k=i+j:=⟨k - i,om9⟩;simp only [zdo,List.getD_eq_getElem?_getD];rw [List.getElem?_append_right (by rw [zcB];omega),zcB,Nat.add_sub_cancel_left,List.getElem?_drop]
theorem zqn {Y i d:Nat}{L:List Nat}(h:i<L.length):(zdo Y L i).set i d=zcp Y i++d::L.drop (i+1):=by
 unfold zdo;rw [List.set_append_right _ _ (by rw [zcB];omega),zcB,Nat.sub_self,List.drop_eq_getElem_cons h,List.set_cons_zero]
theorem zqo {Y i d e:Nat}{L:List Nat}(h:i<L.length):((zdo Y L i).set i d).set i e=(zdo Y L i).set i e:=by simp [List.set_set]
theorem zjh {Y i:Nat}{L:List Nat}(h:i<L.length):(zdo Y L i).set i (wd Y i)=zdo Y L (i+1):=by
 rw [zqn h];unfold zdo;rw [zfO,List.append_assoc];rfl
theorem zmv (Y:Nat)(L:List Nat):zdo Y L 0=L:=by simp [zdo,zcp]
theorem zqq {X q r i:Nat}(hr:r<64):wd (X / 2^(64*q+r)) i=wd X (q+i) / 2^r+2^(64 - r)*(wd X (q+i+1)%2^r):=by
 have h:=wd_shr X (64*q+r) i;rw [show(64*q+r) / 64=q from by omega,show(64*q+r)%64=r from by omega] at h;exact h
theorem zqp {X q r n:Nat}(hX:X<18446744073709551616^n)(hq:q<=n):(dg 18446744073709551616 (X / 2^(64*q+r))).length<=n - q:=by
 refine zcH de9 _ _ ?_;have e:(18446744073709551616:Nat)^q=2^(64*q):=by rw [show(18446744073709551616:Nat)=2^64 from rfl,<-Nat.pow_mul]
 rw [Nat.pow_add,<-Nat.div_div_eq_div_mul,<-e];refine Nat.lt_of_le_of_lt (Nat.div_le_self _ _) ((Nat.div_lt_iff_lt_mul (Nat.pow_pos de9)).2 ?_);rw [<-Nat.pow_add,Nat.sub_add_cancel hq];exact hX
def DropsR (w:World)(ty:TypeId)(g cap n X:Nat)(e:Ending)(w':World):Prop:=
 (X=0/\e=.returned (.bool false)/\w=w')\/(X≠0/\∃L,e=.returned (.bool true)/\zaq w' ty g cap n L/\Dgs 18446744073709551616 L/\dv 18446744073709551616 L=X / 2^zbR X/\Off g w w')
theorem zmy (ty:TypeId)(g cap n:Nat)(L:List Nat)(w:World)(hR:zaq w ty g cap n L)(hd:Dgs 18446744073709551616 L)(hn:n<=1099511627776)(hT:zai w):
  Calls prog 223 #[.slice (some ⟨g,0,none⟩) n cap] w (DropsR w ty g cap n (dv 18446744073709551616 L)):=by
 have hl:=hR.len;have hX:=zcP hd;rw [hl] at hX;have HW:∀k,L.getD k 0=wd (dv 18446744073709551616 L) k:=λk=>zfl de9 hd k;obtain⟨X,Q⟩:∃X,dv 18446744073709551616 L=X:=⟨_,rfl⟩;rw [Q] at hX HW⊢;have HX:=lh9 hX;have F:=lh9 HW;have HL:=lh9 hl;have hnc:=hR.room.1;have HT:=lh9 hT;have HR:=lh9 hR;clear hX HW hl Q hT hR;go_enter func223,ntmps223;go_wp2_with fail
 go_loop [3] (λix=>∃k:Nat,k<=n/\ix=.int .i64 k/\Hid (X%18446744073709551616^k=0)) (λix=>n - (intOf ix).toNat)
 case atStart=>exact⟨0,Nat.zero_le _,rfl,by show _=_;simp [Nat.mod_one]⟩
 case round=>
  obtain⟨k,hk,rfl,H⟩:=hrel;have i1:(0:Int)<=(k:Int):=om9;by_cases hlt:k<n
  ·have D:=HR.out.cell k hlt;rw [F.out] at D;have i2:(k:Int)<(n:Int):=om9;by_cases hz:wd X k=0
   ·have HN:Hid (X%18446744073709551616^(k+1)=0):=by
     show _=_;rw [zba 18446744073709551616 X k,H.out,Nat.zero_add];unfold wd at hz;rw [hz,Nat.mul_zero]
    rw [hz] at D;clear hz;go_wp2
    go_round
    case rel=>exact⟨k+1,om9,by go_num,HN⟩
    case measure=>simp [intOf];omega
   ·have HV:=lh9 (zpV H.out hz);have S:=zcs X k;have WT:=zpU ((wd X k:Nat):Int) ⟨om9,om9⟩ w HT.out;have et:zgX ((wd X k:Nat):Int)=((Lib.ctz 64 (wd X k):Nat):Int):=by unfold zgX;simp
    have z:Lib.ctz 64 (wd X k)<64:=by
     obtain⟨m,hm,hc⟩:=Lib.ctzFrom_spec 64 (wd X k) om9 (by simpa using S);have ec:Lib.ctz 64 (wd X k)=Lib.ctzFrom 64 (wd X k):=by unfold Lib.ctz;rw [if_neg hz]
     rw [ec];rcases Nat.lt_or_ge (Lib.ctzFrom 64 (wd X k)) 64 with h|h
     ·exact h
     ·have h2:2^64<=2^Lib.ctzFrom 64 (wd X k):=Nat.pow_le_pow_right de9 h;have h3:2^Lib.ctzFrom 64 (wd X k)<=wd X k:=by
       conv=>rhs;rw [hm]
       exact Nat.le_mul_of_pos_right _ om9
      omega
    rw [et] at WT;obtain⟨r,hr⟩:∃t,Lib.ctz 64 (wd X k)=t:=⟨_,rfl⟩;rw [hr] at WT HV z;obtain⟨a,ha⟩:∃a,wd X k=a:=⟨_,rfl⟩;rw [ha] at D WT hz;have P:=lh9 WT;have ad:((a:Int)==0)=false:=beq_eq_false_iff_ne.2 om9;have ae:((a:Int) !=0)=true:=by simp;omega
    have I:((k:Int)==(n:Int))=false:=beq_eq_false_iff_ne.2 om9;have G:Hid (X≠0):=λe=>by
     rw [e] at ha;have:(0:Nat)=a:=by rw [<-ha];unfold wd;simp
     exact hz this.symm
    obtain⟨Y,hY⟩:∃Y,X / 2^(64*k+r)=Y:=⟨_,rfl⟩;have aa:Hid (∀i,wd Y i=wd X (k+i) / 2^r+2^(64 - r)*(wd X (k+i+1)%2^r)):=λi=>by rw [<-hY];exact zqq z
    have K:Hid ((dg 18446744073709551616 Y).length<=n - k):=by show _;rw [<-hY];exact zqp HX.out hk
    have Z:Hid (Y=X / 2^zbR X):=by show _=_;rw [<-hY,HV.out]
    obtain⟨N,hN⟩:∃N,n - k=N:=⟨_,rfl⟩;obtain⟨C,hC⟩:∃N,cap - k=N:=⟨_,rfl⟩;rw [hN] at K;have T:=lh9 (show N+k=n by omega);have hck:¬(cap=k):=om9;have hNp:0<N:=om9;have i3:(k:Int)<=(n:Int):=om9;clear WT hr ha et S hY HV H;go_wp2_with fail;refine P.out.mono ?_;rintro e w' ⟨rfl,rfl⟩;go_wp2_with fail;have O:zaq w ty g cap n (zdo Y L 0):=by rw [zmv];exact HR.out
    have M:=Off.refl g w;clear ad ae I D hz P
    go_loopg [34] (N+1) (λgg ix wr=>∃i:Nat,i<=N/\N<gg+i/\ix=.int .i64 i/\zaq wr ty g cap n (zdo Y L i)/\Off g w wr)
    case atStart=>exact⟨0,om9,om9,rfl,O,M⟩
    case round=>
     clear O M;obtain⟨i,hi,hgg,rfl,hR,hO⟩:=hrel;have hNn:=T.out;have j0:(0:Int)<=(i:Int):=om9;by_cases R:i<N
     ·have s:i<n:=om9;have hw:=aa.out i;have E:=zcs X (k+i);have J:=zcs X (k+i+1);have k1:=hR.cell (k+i) om9;rw [zks om9,F.out] at k1;have k2:=hR.cell i s;have k3:=hR.frozen i;have j1:(i:Int)<(N:Int):=om9;have j2:(i:Int)<(n:Int):=om9;have j3:IntKind.i64.wrap (64 - (r:Int))=64 - (r:Int):=IntWalk.i64_in _ om9;have j4:IntKind.i64.wrap ((i:Int)+1)=(i:Int)+1:=IntWalk.i64_in _ om9;obtain⟨b,hb⟩:∃b,wd X (k+i+1)=b:=⟨_,rfl⟩;obtain⟨v,hv⟩:∃b,wd X (k+i)=b:=⟨_,rfl⟩;obtain⟨u,hu⟩:∃b,(zdo Y L i).getD i 0=b:=⟨_,rfl⟩;rw [hv] at k1 hw E;rw [hb] at hw J;rw [hu] at k2;have e1:(v:Int) / 2^r=((v / 2^r:Nat):Int):=si9;have d:=hR.set_ i (v / 2^r) s;rw [<-e1] at d;have B:=hO.set_ i (.int .u64 ((v:Int) / 2^r));have hll:=HL.out;by_cases hi1:i+1<N
      ·have m1:=d.cell i s;rw [zgG (by rw [zqm om9];omega),<-e1] at m1;have m2:=hR.cell (k+(i+1)) om9;rw [zks om9,F.out,show wd X (k+(i+1))=b from by rw [<-Nat.add_assoc];exact hb] at m2;have m3:=d.frozen i;have j5:(i:Int)+1<(N:Int):=om9;have j6:((i:Int)+1).toNat=i+1:=om9;have j7:(0:Int)<=(i:Int)+1:=om9;have hc:=zns (b:=b) E z;have o:=d.drew.set_ i (v / 2^r+2^(64 - r)*(b%2^r)) s;rw [<-hc,zqo om9,<-hw,zjh om9] at o;have V:=lh9 o;have y:=(off_drew B).set_ i (.int .u64 (bits .or .u64 ((v:Int) / 2^r) (IntKind.u64.wrap ((b:Int)*2^(64 - r)))));have U:=lh9 y;clear o y d B hR hO hc e1 hw hb hv hu E J;go_wp2_with fail;go_region;go_wp2;go_roundg (N - i)
       case measure=>omega
       case rel=>exact⟨i+1,om9,om9,by go_num,V.out,U.out⟩
      ·have ab:b=0:=by
        rw [<-hb,show k+i+1=n from by omega];unfold wd;rw [Nat.div_eq_of_lt HX.out]
       rw [ab,Nat.zero_mod,Nat.mul_zero,Nat.add_zero] at hw;rw [<-hw,zjh om9] at d;have l:=lh9 d;have j:=lh9 B;have j5:¬((i:Int)+1<(N:Int)):=om9;clear d B hR hO e1 hw hb hv hu E J;go_wp2;go_roundg (N - i)
       case measure=>omega
       case rel=>exact⟨i+1,om9,om9,by go_num,l.out,j.out⟩
     ·have R:i=N:=om9;subst R;have HF:∀L',L'=zcp Y i++List.replicate k 0->Hid (Dgs 18446744073709551616 L'/\dv 18446744073709551616 L'=X / 2^zbR X):=λL' e=>by
       subst e;refine⟨(zjk _ _).append (Dgs.zeros de9 _),?_⟩;rw [zbA,zeT,Nat.mul_zero,Nat.add_zero,zjj K.out,Z.out]
      have f:=lh9 (HF _ rfl);clear HF;have q1:n - i=k:=om9;have q2:(i:Int)<=(n:Int):=om9;rcases Nat.eq_zero_or_pos k with hk0|hkp
      ·subst hk0;have s:i=n:=om9;subst s;have l:Hid (zaq wr ty g cap i (zcp Y i++List.replicate 0 0)):=by
        show zaq _ _ _ _ _ _;rw [show zdo Y L i=zcp Y i++List.replicate 0 0 from by unfold zdo;rw [List.drop_of_length_le (by rw [HL.out];exact Nat.le_refl _)];rfl] at hR;exact hR
       have j:=lh9 hO;have ac:∀(t:TypeId) (A:oA9) (c:Nat),(Builtin.clear_ #[35] t #[.slice A 0 c]).run prog wr=.ok (.tuple #[]) wr:=λt A c=>znU t wr;clear hR hO;by_cases hce:cap=i
       ·go_wp2;go_ret;exact .inr ⟨G.out,_,rfl,l.out,f.out.out.1,f.out.out.2,j.out⟩
       ·go_wp2;go_ret;exact .inr ⟨G.out,_,rfl,l.out,f.out.out.1,f.out.out.2,j.out⟩
      ·have hci:¬(cap=i):=om9;obtain⟨W2,ac,o,y⟩:=znq (c:=cap - i) (k:=i) (m:=k) (A:=zcp Y i) (C:=L.drop i) hR (zcB _ _) (by rw [List.length_drop,HL.out];omega) hkp;have l:=lh9 o;have j:=lh9 (hO.trans y);clear hR hO o y;go_wp2;go_ret;exact .inr ⟨G.out,_,rfl,l.out,f.out.out.1,f.out.out.2,j.out⟩
  ·have I:k=n:=om9;subst I;have HZ:Hid (X=0):=by
    show _=_;have h2:=H.out;rw [Nat.mod_eq_of_lt HX.out] at h2;exact h2
   go_wp2;go_ret;exact .inl ⟨HZ.out,rfl,rfl⟩
