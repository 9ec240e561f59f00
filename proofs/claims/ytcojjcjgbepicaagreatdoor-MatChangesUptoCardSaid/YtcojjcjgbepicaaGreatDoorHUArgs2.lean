/- What this claim leans on. -/
import Derived.Test.YtcojjcjgbepicaaGreatDoorHBun7
import Derived.Deep.Matrix
import Derived.Deep.RegionLaw
namespace Go.Proofs.YtcojjcjgbepicaaGreatDoor
open Go Go.RowKit Go.Proofs.Tryz
open Go.ChangeShapes Go.WideShapes Go.ChangeAt Go.Deep
set_option maxHeartbeats 16000000
set_option linter.unusedVariables false
namespace UA
set_option maxHeartbeats 16000000
theorem mem_le {H:Type}{d:DataW H}{l:List (DataW H)}(h:d ∈ l):Rows.uptoBulk d<=Rows.uptoBulkAll l:=by
 induction l with
 |nil=>cases h
 |cons x r ih=>
   simp only [Rows.uptoBulkAll];rcases List.mem_cons.1 h with rfl|h
   ·omega
   ·have:=ih h;omega
end UA
open Go Go.RowKit Go.Proofs.Tryz
set_option maxHeartbeats 16000000
set_option linter.unusedVariables false
theorem zgz (a:Int)(g:Nat):(a / (g:Int)).natAbs<=a.natAbs:=by
 rcases Nat.eq_zero_or_pos g with rfl|hg
 ·simp
 ·exact Int.natAbs_ediv_le_natAbs a g
theorem zoB (a b:Rat):(a+b).num.natAbs<=a.num.natAbs*b.den+b.num.natAbs*a.den:=by
 rw [Rat.num_add];refine Nat.le_trans (zgz _ _) (Nat.le_trans (Int.natAbs_add_le _ _) ?_);rw [Int.natAbs_mul,Int.natAbs_mul,Int.natAbs_natCast,Int.natAbs_natCast];exact Nat.le_refl _
theorem zob (a b:Rat):(a+b).den<=a.den*b.den:=by rw [Rat.den_add];exact Nat.div_le_self _ _
theorem zoC (a b:Rat):(a*b).num.natAbs<=a.num.natAbs*b.num.natAbs:=by
 rw [Rat.num_mul];refine Nat.le_trans (zgz _ _) ?_;rw [Int.natAbs_mul];exact Nat.le_refl _
theorem zoc (a b:Rat):(a*b).den<=a.den*b.den:=by rw [Rat.den_mul];exact Nat.div_le_self _ _
theorem zjS (p q:Int):(Rat.divInt p q).num.natAbs<=p.natAbs:=by
 rw [Rat.num_divInt];refine Nat.le_trans (zgz _ _) ?_;rw [Int.natAbs_mul];by_cases h:q=0
 ·simp [h]
 ·rw [Int.natAbs_sign_of_ne_zero h,Nat.one_mul];exact Nat.le_refl _
def LtQ (b:Nat)(r:Rat):Prop:=r.num.natAbs<b/\r.den<b
theorem LtQ.up {b b':Nat}{r:Rat}(h:LtQ b r)(hb:b<=b'):LtQ b' r:=⟨Nat.lt_of_lt_of_le h.1 hb,Nat.lt_of_lt_of_le h.2 hb⟩
theorem LtQ.add {b b':Nat}{r s:Rat}(h:LtQ b r)(h':LtQ b' s):LtQ (2*(b*b')) (r+s):=by
 have h1:r.num.natAbs*s.den<b*b':=Nat.mul_lt_mul'' h.1 h'.2;have h2:s.num.natAbs*r.den<b*b':=by rw [Nat.mul_comm b b'];exact Nat.mul_lt_mul'' h'.1 h.2
 have h3:r.den*s.den<b*b':=Nat.mul_lt_mul'' h.2 h'.2;have h4:=zoB r s;have h5:=zob r s;exact⟨om9,om9⟩
theorem LtQ.mul {b b':Nat}{r s:Rat}(h:LtQ b r)(h':LtQ b' s):LtQ (b*b') (r*s):=
 ⟨Nat.lt_of_le_of_lt (zoC r s) (Nat.mul_lt_mul'' h.1 h'.1),Nat.lt_of_le_of_lt (zoc r s) (Nat.mul_lt_mul'' h.2 h'.2)⟩
theorem LtQ.neg {b:Nat}{r:Rat}(h:LtQ b r):LtQ b (-r):=⟨by rw [Rat.neg_num,Int.natAbs_neg];exact h.1,h.2⟩
theorem LtQ.made {b:Nat}{p q:Int}(hp:p.natAbs<b)(hq:q.natAbs<b)(hb:1<b):LtQ b (Rat.divInt p q):=by
 refine⟨Nat.lt_of_le_of_lt (zjS p q) hp,?_⟩;rw [Rat.den_divInt]
 split
 ·exact hb
 ·exact Nat.lt_of_le_of_lt (Nat.div_le_self _ _) hq
theorem LtQ.whole {b:Nat}{z:Int}(hz:z.natAbs<b)(hb:1<b):LtQ b (z:Rat):=⟨by rw [Rat.num_intCast];exact hz,by rw [Rat.den_intCast];exact hb⟩
def zgx (r s:Rat):Int:=if r<s then -1 else if r=s then 0 else 1
theorem znY (r s:Rat):zgx r s=zhy (r.num*s.den) (s.num*r.den):=by
 unfold zgx zhy;by_cases h1:r<s
 ·rw [if_pos h1,if_pos ((Rat.lt_iff r s).1 h1)]
 ·rw [if_neg h1,if_neg (λh=>h1 ((Rat.lt_iff r s).2 h))];by_cases h2:r=s
  ·rw [if_pos h2,if_pos (Rat.eq_iff_mul_eq_mul.1 h2)]
  ·rw [if_neg h2,if_neg (λh=>h2 (Rat.eq_iff_mul_eq_mul.2 h))]
theorem cmpQ_eq (r s:Rat):zgx r s=0↔r=s:=by
 unfold zgx;by_cases h1:r<s
 ·rw [if_pos h1];constructor
  ·intro h;omega
  ·intro h;exact absurd h (Rat.ne_of_lt h1)
 ·rw [if_neg h1];by_cases h2:r=s<;>simp [h2]
def sgnQ (r:Rat):Int:=zeO r.num
theorem zmT (p q:Int)(hq:q≠0):(Rat.divInt p q).num.natAbs=p.natAbs / Nat.gcd p.natAbs q.natAbs:=by
 rw [Rat.num_divInt,Int.gcd];have hd:(Nat.gcd q.natAbs p.natAbs:Int)∣ q.sign*p:=Int.dvd_trans (Int.ofNat_dvd_left.2 (Nat.gcd_dvd_right ..)) (Int.dvd_mul_left ..);rw [Int.natAbs_ediv_of_dvd hd,Int.natAbs_mul,Int.natAbs_sign_of_ne_zero hq,Nat.one_mul,Int.natAbs_natCast,Nat.gcd_comm]
theorem zmS (p q:Int)(hq:q≠0):(Rat.divInt p q).den=q.natAbs / Nat.gcd p.natAbs q.natAbs:=by
 rw [Rat.den_divInt,if_neg hq,Int.gcd,Nat.gcd_comm]
theorem zkq (p q:Int)(hq:q≠0):(Rat.divInt p q).num<0↔(p<0/\0<q\/0<p/\q<0):=by
 rw [Rat.num_divInt];have a:0<(q.gcd p:Int):=by
  have:0<q.gcd p:=Int.gcd_pos_of_ne_zero_left p hq;omega
 have e:q.sign*p / (q.gcd p:Int)<0↔q.sign*p<0:=by
  constructor
  ·intro h;refine Int.not_le.1 λh1=>?_;have:=Int.ediv_nonneg h1 (Int.le_of_lt a);omega
  ·intro h;exact Int.ediv_neg_of_neg_of_pos h a
 rw [e];rcases Int.lt_or_gt_of_ne hq with h|h
 ·rw [Int.sign_eq_neg_one_of_neg h];omega
 ·rw [Int.sign_eq_one_of_pos h];omega
open Go Go.RowKit Go.Proofs.Tryz
set_option maxHeartbeats 16000000
set_option linter.unusedVariables false
def zcf (D:List Nat)(a0 a:Act):Prop:=a.defers=a0.defers/\a.tmps.size=a0.tmps.size/\∀j,j ∉ D->a.tmps.getD j undef=a0.tmps.getD j undef
theorem zcf.refl (D:List Nat)(a:Act):zcf D a a:=⟨rfl,rfl,λ_ _=>rfl⟩
theorem rd_ne {a:Act}{i j:Nat}(h:j≠i)(v:Value):(a.put (some i) v).tmps.getD j undef=a.tmps.getD j undef:=by
 simp only [Act.put,Array.getD_eq_getD_getElem?];rw [Array.getElem?_setIfInBounds_ne (Ne.symm h)]
theorem zaB {a:Act}{i:Nat}(h:i<a.tmps.size)(v:Value):(a.put (some i) v).tmps.getD i undef=v:=by
 simp only [Act.put,Array.getD_eq_getD_getElem?];rw [Array.getElem?_setIfInBounds_self_of_lt h];rfl
theorem zhl (a:Act)(i:Nat)(v:Value):(a.put (some i) v).tmps.size=a.tmps.size:=by simp [Act.put]
theorem zcf.put {D:List Nat}{a0 a:Act}(h:zcf D a0 a){i:Nat}(hi:i ∈ D)(v:Value):zcf D a0 (a.put (some i) v):=
 ⟨h.1,by rw [zhl];exact h.2.1,λj hj=>(rd_ne (λe=>hj (by rw [e];exact hi)) v).trans (h.2.2 j hj)⟩
theorem zcf.get {D:List Nat}{a0 a:Act}(h:zcf D a0 a)(j:Nat)(hj:j ∉ D){v:Value}(hv:a0.tmps.getD j undef=v):a.tmps.getD j undef=v:=(h.2.2 j hj).trans hv
theorem zcf.lt {D:List Nat}{a0 a:Act}(h:zcf D a0 a){j:Nat}(hj:j<a0.tmps.size):j<a.tmps.size:=by rw [h.2.1];exact hj
theorem act_ext {a b:Act}(hd:a.defers=b.defers)(hs:a.tmps.size=b.tmps.size)(hg:∀j,a.tmps.getD j undef=b.tmps.getD j undef):a=b:=by
 obtain⟨at_,ad⟩:=a;obtain⟨bt,bd⟩:=b;simp only at hd hs hg;subst hd;congr 1;refine Array.ext hs λj h1 h2=>?_;have:=hg j;simp only [Array.getD_eq_getD_getElem?,Array.getElem?_eq_getElem h1,Array.getElem?_eq_getElem h2] at this;exact this
def zbY (vs:List (Nat×Value))(a:Act):Act:=vs.foldl (λa p=>a.put (some p.1) p.2) a
theorem zhX (vs:List (Nat×Value))(a:Act):(zbY vs a).tmps.size=a.tmps.size/\(zbY vs a).defers=a.defers:=by
 unfold zbY
 induction vs generalizing a with
 |nil=>exact⟨rfl,rfl⟩
 |cons p t ih=>rw [List.foldl_cons];have:=ih (a.put (some p.1) p.2);exact⟨this.1.trans (zhl _ _ _),this.2⟩
theorem zoF (vs:List (Nat×Value))(a b:Act)(hs:b.tmps.size=a.tmps.size)(hv:∀p ∈ vs,a.tmps.getD p.1 undef=p.2):∀j,(zbY vs b).tmps.getD j undef=if j ∈ vs.map Prod.fst then a.tmps.getD j undef else b.tmps.getD j undef:=by
 intro j
 induction vs generalizing b with
 |nil=>rfl
 |cons p t ih=>
   show(zbY t (b.put (some p.1) p.2)).tmps.getD j undef=_;rw [ih (b.put (some p.1) p.2) (by rw [zhl];exact hs) (λq hq=>hv q (List.mem_cons_of_mem _ hq))];by_cases h1:j ∈ t.map Prod.fst
   ·rw [if_pos h1,if_pos (by rw [List.map_cons];exact List.mem_cons_of_mem _ h1)]
   ·rw [if_neg h1];by_cases h2:j=p.1
    ·rw [if_pos (by rw [List.map_cons,h2];exact List.mem_cons_self),h2,hv p List.mem_cons_self];by_cases h3:p.1<b.tmps.size
     ·exact zaB h3 _
     ·have h4:=hv p List.mem_cons_self;have h5:¬ p.1<a.tmps.size:=by rw [<-hs];exact h3
      simp only [Array.getD_eq_getD_getElem?] at h4⊢;rw [Array.getElem?_eq_none om9] at h4;rw [Array.getElem?_eq_none (by rw [zhl];omega)];exact h4
    ·rw [if_neg (by rw [List.map_cons];intro h;rcases List.mem_cons.1 h with h|h;exact h2 h;exact h1 h)];exact rd_ne h2 _
theorem zcf.eq {D:List Nat}{a0 a:Act}(h:zcf D a0 a)(vs:List (Nat×Value))(hD:vs.map Prod.fst=D)(hv:∀p ∈ vs,a.tmps.getD p.1 undef=p.2):a=zbY vs a0:=by
 subst hD;refine act_ext (h.1.trans (zhX vs a0).2.symm) (h.2.1.trans (zhX vs a0).1.symm) λj=>?_;rw [zoF vs a a0 h.2.1.symm hv j];by_cases h1:j ∈ vs.map Prod.fst
 ·rw [if_pos h1]
 ·rw [if_neg h1];exact h.2.2 j h1
section
variable {P:Program}{ops0:Array Oper}{Q:Exit->Act->World->Prop}{md:Region.Mode}{S:World->Prop}
theorem zaV {J:Act->Array Bool->Act->World->Prop}{L:Array Bool}{a0:Act}{l0:Array Bool}{w0:World}{b:Nat}(hd:due l0=b)(h0:J a0 l0 a0 w0)
  (c:∀(f:Array Oper) (A0:Act) (Q':Exit->Act->World->Prop),f=ops0->A0.tmps.size=a0.tmps.size->(∀i d,A0.tmps.getD i d=a0.tmps.getD i d)->(∀l a w,J A0 l a w->Region.ready md f l=[]->l=L)/\∀l a w i,J A0 l a w->l≠L->i ∈ Region.ready md f l->wpOp P f Q' i (λa' w'=>S w'/\J A0 (l.setIfInBounds i true) a' w') a w)
  (g:∀a w,J a0 L a w->wpAnyH P md ops0 Q S (due L) L a w):wpAnyH P md ops0 Q S b l0 a0 w0:=
 zmc (c ops0 a0 Q rfl rfl (λ_ _=>rfl)).1 (c ops0 a0 Q rfl rfl (λ_ _=>rfl)).2 g b l0 a0 w0 hd h0
theorem wpOp_go {b:Array Oper}{i:Nat}{o:Oper}{K:Act->World->Prop}{a:Act}{w:World}(ho:b[i]?=some o)(hg:o.guard=none)
  (h:∀K':Act->World->Prop,Shut (∀a w,K a w->K' a w)->Oper.wp P o a w K' Q):wpOp P b Q i K a w:=
 wpOp_step ho λK' hK=>by
  rw [if_pos (by unfold Region.wanted;rw [hg])];exact h K' hK
theorem znC {o:Oper}{K:Act->World->Prop}{a:Act}{w w':World}{v:Value}(h:(execOp a.eval o).run P w=.ok (.value v) w')(hK:K (a.put o.dst v) w'):Oper.wp P o a w K Q:=by
 unfold Oper.wp;rw [h];exact hK
theorem zbu {o:Oper}{K:Act->World->Prop}{a:Act}{w:World}{v:Value}{x:Nat}(ho:o.op=.move (.tmp x)\/o.op=.assign (.tmp x))(hx:a.tmps.getD x undef=v)(hK:K (a.put o.dst v) w):Oper.wp P o a w K Q:=by
 refine znC (v:=v) (w':=w) ?_ hK;unfold execOp;rcases ho with ho|ho<;>rw [ho]<;>simp only [Act.eval,hx]<;>rfl
theorem zaM {o:Oper}{K:Act->World->Prop}{a:Act}{w:World}{v:Value}{x k:Nat}{vs:Array Value}(ho:o.op=.extract (.tmp x) k)(hx:a.tmps.getD x undef=.tuple vs)(hk:vs[k]?=some v)(hK:K (a.put o.dst v) w):Oper.wp P o a w K Q:=by
 refine znC (v:=v) (w':=w) ?_ hK;unfold execOp;rw [ho];simp only [Act.eval,hx,Instr.extract,hk];rfl
end
open Go Go.RowKit Go.Proofs.Tryz
set_option maxHeartbeats 16000000
set_option maxRecDepth 100000
set_option linter.unusedVariables false
theorem zdn (x:Nat)(A:oA9)(n c:Nat)(w:World)(hA:zaf w x A n c)(hn:n<=1):
  Calls prog 160 #[.agg #[.slice A n c]] w λe w'=>e=.returned (.tuple #[.int .u64 (wd x 0:Nat),.bool true])/\Below w.heap.size w w':=by
 have WX:=(λw' (h:Below w.heap.size w w')=>zdH x A n c 0 w' (hA.below h));obtain⟨a,ha⟩:∃a,wd x 0=a:=⟨_,rfl⟩;rw [ha] at WX⊢;have b:=lh9 WX;have h1:decide ((1:Int)<(n:Int))=false:=by simp;omega
 have h2:decide ((n:Int)>1)=false:=by simp;omega
 have h3:¬ 1<n:=om9;clear WX ha hA;go_enter func160,ntmps160;go_wp2_with fail;obtain⟨b1,b2,b5⟩:=zaD w 49 #[.slice A n c];refine(b.out _ b1).mono ?_;rintro e w1 ⟨rfl,hb⟩;have hB:=zac b1 hb;clear hb b1 b2 b5;go_wp2
 go_ret2
 exact⟨rfl,hB⟩
theorem zcT (A:oA9)(n c:Nat)(w:World)(hn:1<n):
  Calls prog 160 #[.agg #[.slice A n c]] w λe w'=>e=.returned (.tuple #[.int .u64 0,.bool false])/\Below w.heap.size w w':=by
 go_enter func160,ntmps160;go_wp2
 go_ret2
 exact⟨rfl,(Below.refl _ w).alloc (Nat.le_refl _) _⟩
def TW (x t:Nat):Prop:=(x=0/\t=0)\/∃m,x=2^t*(2*m+1)
def zbR (x:Nat):Nat:=if x=0 then 0 else Lib.ctzFrom x x
theorem zlZ {x t:Nat}{m:Nat}(h:x=2^t*(2*m+1)):x / 2^t%2=1:=by
 rw [h,Nat.mul_div_cancel_left _ (Nat.two_pow_pos t)];omega
theorem tw_low {x t j:Nat}{m:Nat}(h:x=2^t*(2*m+1))(hj:j<t):x / 2^j%2=0:=by
 obtain⟨s,rfl⟩:∃s,t=j+(s+1):=⟨t - j - 1,om9⟩;rw [h,Nat.pow_add,Nat.mul_assoc,Nat.mul_div_cancel_left _ (Nat.two_pow_pos j),Nat.pow_succ,Nat.mul_comm (2^s) 2,Nat.mul_assoc];exact Nat.mul_mod_right _ _
theorem tw_pos {x t:Nat}{m:Nat}(h:x=2^t*(2*m+1)):x≠0:=by
 have:=Nat.two_pow_pos t;rw [h];exact Nat.ne_of_gt (Nat.mul_pos this om9)
theorem tw_N (x:Nat):TW x (zbR x):=by
 unfold TW zbR;by_cases h:x=0
 ·exact .inl ⟨h,by rw [if_pos h]⟩
 ·rw [if_neg h];obtain⟨m,hm,_⟩:=Lib.ctzFrom_spec x x om9 Nat.lt_two_pow_self;exact .inr ⟨m,hm⟩
theorem tw_find {x t:Nat}(a:∀j,j<t->x / 2^j%2=0)(hx:x=0->t=0)(h1:x≠0->x / 2^t%2=1):t=zbR x:=by
 rcases tw_N x with⟨e,h⟩|⟨m,h⟩
 ·rw [hx e,h]
 ·have h0:=tw_pos h;rcases Nat.lt_trichotomy t (zbR x) with hl|hl|hl
  ·have:=tw_low h hl;rw [h1 h0] at this;omega
  ·exact hl
  ·have:=zlZ h;rw [a _ hl] at this;omega
theorem tw_of {x t m:Nat}(h:x=2^t*(2*m+1)):t=zbR x:=
 tw_find (λj hj=>tw_low h hj) (λe=>absurd e (tw_pos h)) (λ_=>zlZ h)
theorem zpR {x k:Nat}(h0:x%18446744073709551616^k=0)(hw:wd x k≠0):64*k+Lib.ctz 64 (wd x k)=zbR x:=by
 have a:=zcu x k;obtain⟨m,hm,hc⟩:=Lib.ctzFrom_spec 64 (wd x k) om9 (by simpa using a);have ec:Lib.ctz 64 (wd x k)=Lib.ctzFrom 64 (wd x k):=by unfold Lib.ctz;rw [if_neg hw]
 rw [ec];generalize Lib.ctzFrom 64 (wd x k)=c at*;obtain⟨s,hs⟩:∃s,64=c+(s+1):=⟨63 - c,om9⟩;obtain⟨q,hq⟩:∃q,x / 18446744073709551616^k / 18446744073709551616=q:=⟨_,rfl⟩;have e1:x / 18446744073709551616^k=18446744073709551616*q+wd x k:=by rw [<-hq];exact(Nat.div_add_mod _ _).symm
 have e2:x=18446744073709551616^k*(x / 18446744073709551616^k):=by
  have:=Nat.div_add_mod x (18446744073709551616^k);rw [h0] at this;omega
 have e3:(18446744073709551616:Nat)=2^c*(2*2^s):=by
  rw [show(18446744073709551616:Nat)=2^64 from rfl,hs,Nat.pow_add,Nat.pow_succ,Nat.mul_comm (2^s) 2]
 refine tw_of (m:=2^s*q+m) ?_;have e4:(18446744073709551616:Nat)^k=2^(64*k):=by rw [show(18446744073709551616:Nat)=2^64 from rfl,<-Nat.pow_mul]
 have e5:18446744073709551616*q+wd x k=2^c*(2*(2^s*q+m)+1):=by
  rw [hm]
  conv=>lhs;rw [e3]
  rw [Nat.mul_assoc,<-Nat.mul_add,Nat.mul_add 2,Nat.mul_assoc,Nat.add_assoc]
 rw [e2,e1,e5,e4,<-Nat.mul_assoc,<-Nat.pow_add]
theorem zji (x:Nat)(A:oA9)(n c:Nat)(w:World)(hA:zaf w x A n c)(hn:n<=1099511627776)(hT:zam w):
  Calls prog 198 #[.agg #[.slice A n c]] w λe w'=>e=.returned (.int .i64 (zbR x:Nat))/\Below w.heap.size w w':=by
 have m:=lh9 hA.len;have hr:=hA.1;have HT:=lh9 (λo=>hT.on ((Below.refl _ w).alloc (Nat.le_refl _) o));have f:∀o,Hid (zav (w.alloc o) w.heap.size 1 A n (zaw .u64 (dg 18446744073709551616 x))):=λo=>hr.alloc (Nat.le_refl _) o;have HC:=lh9 f;clear hA hT f hr;go_enter func198,ntmps198;go_wp2_with fail
 go_loop [3,4,8] (λ_ _ ix=>∃k:Nat,k<=n/\ix=.int .i64 k/\Hid (x%18446744073709551616^k=0)) (λ_ _ ix=>n - (intOf ix).toNat)
 case atStart=>exact⟨0,Nat.zero_le _,rfl,by show _=_;simp [Nat.mod_one]⟩
 case round=>
  obtain⟨k,hk,rfl,H⟩:=hrel;by_cases hlt:k<n
  ·obtain⟨ad,rfl,hadb,d⟩:=zbF (HC.out (.cells #[.slice A n c] 49)).out hlt;rw [zey] at d;by_cases hz:wd x k=0
   ·have HN:Hid (x%18446744073709551616^(k+1)=0):=by
     show _=_;rw [zaU 18446744073709551616 x k,H.out,Nat.zero_add];unfold wd at hz;rw [hz,Nat.mul_zero]
    rw [hz] at d;clear hz;go_wp2
    go_round
    case rel=>exact⟨k+1,om9,by go_num,HN⟩
    case measure=>simp [intOf];omega
   ·have HV:=lh9 (zpR H.out hz);have g:=zcu x k;have WT:=(λw' (h:zam w')=>zpi ((wd x k:Nat):Int) ⟨om9,om9⟩ w' h);have j:=ctz_le (wd x k) (by simpa using g);have et:zgJ ((wd x k:Nat):Int)=((Lib.ctz 64 (wd x k):Nat):Int):=by unfold zgJ;simp
    rw [et] at WT;obtain⟨t,ht⟩:∃t,Lib.ctz 64 (wd x k)=t:=⟨_,rfl⟩;rw [ht] at WT HV j;obtain⟨a,ha⟩:∃a,wd x k=a:=⟨_,rfl⟩;rw [ha] at d WT hz;have i:=lh9 WT;have hz':((a:Int)==0)=false:=beq_eq_false_iff_ne.2 om9;have hz2:((a:Int) !=0)=true:=by simp;omega
    clear WT ht ha et hz g;go_wp2_with fail;refine(i.out _ (HT.out _)).mono ?_;rintro e w' ⟨rfl,rfl⟩;go_wp2;go_ret;refine⟨zlQ ?_,(Below.refl _ w).alloc (Nat.le_refl _) _⟩;have:=HV.out;omega
  ·have l:k=n:=om9;subst l;have HX:Hid (zbR x=0):=by
    show _=_;have h1:=zbh (b:=18446744073709551616) de9 x;rw [m.out] at h1;have h2:=H.out;rw [Nat.mod_eq_of_lt h1] at h2;rw [h2];rfl
   go_wp2;go_ret;exact⟨by rw [HX.out];rfl,(Below.refl _ w).alloc (Nat.le_refl _) _⟩
open Go Go.RowKit Go.Proofs.Tryz
set_option maxHeartbeats 16000000
set_option linter.unusedVariables false
theorem zpv {r:Rat}{t:Int}{d:Nat}(hd:d≠0)(hc:Nat.gcd t.natAbs d=1)(h:r=Rat.divInt t d):r.num=t/\r.den=d:=by
 have e:(⟨t,d,hd,hc⟩:Rat)=Rat.divInt t d:=Rat.mk_eq_divInt;rw [<-e] at h;subst h;exact⟨rfl,rfl⟩
theorem zjz (t:Int)(h:Nat)(hd:h ∣ t.natAbs):t=(h:Int)*zbc (decide (t<0)) (t.natAbs / h):=by
 obtain⟨k,hk⟩:=hd;by_cases h0:h=0
 ·subst h0;rw [Nat.zero_mul] at hk;have:t=0:=Int.natAbs_eq_zero.1 hk;subst this;simp
 have e:t.natAbs / h=k:=by rw [hk];exact Nat.mul_div_cancel_left _ (Nat.pos_of_ne_zero h0)
 rw [e];unfold zbc;by_cases ht:t<0
 ·rw [decide_eq_true ht,if_pos rfl,Int.mul_neg,<-Int.natCast_mul,<-hk];omega
 ·rw [decide_eq_false ht,if_neg de9,<-Int.natCast_mul,<-hk];omega
theorem sgnI_mul (s u:Bool)(x y:Nat):zbc s x*zbc u y=zbc (s !=u) (x*y):=by
 cases s<;>cases u<;>simp [zbc,Int.natCast_mul,Int.neg_mul,Int.mul_neg]
theorem zrl {p1 p2 t:Int}{q1 mA mB:Nat}(hc:Nat.gcd p1.natAbs q1=1)(hA:mA ∣ q1)(hm:Nat.gcd mA mB=1)(ht:t=p1*mB+p2*mA):Nat.gcd t.natAbs mA=1:=by
 refine Nat.dvd_one.1 ?_;have h1:Nat.gcd t.natAbs mA ∣ mA:=Nat.gcd_dvd_right _ _;have h2:Nat.gcd t.natAbs mA ∣ t.natAbs:=Nat.gcd_dvd_left _ _;generalize Nat.gcd t.natAbs mA=d at*;have h3:(d:Int)∣ p1*mB:=by
  have a:=Int.ofNat_dvd_left.2 h2;have b:(d:Int)∣ p2*mA:=Int.dvd_trans (Int.ofNat_dvd.2 h1) (Int.dvd_mul_left _ _);have c:=Int.dvd_sub a b;rw [ht,Int.add_sub_cancel] at c;exact c
 have h4:d ∣ p1.natAbs*mB:=by
  have:=Int.ofNat_dvd_left.1 h3;rwa [Int.natAbs_mul,Int.natAbs_natCast] at this
 have h5:Nat.Coprime d mB:=Nat.Coprime.coprime_dvd_left h1 hm;have h6:d ∣ p1.natAbs:=h5.dvd_of_dvd_mul_right h4;have h7:=Nat.dvd_gcd h6 (Nat.dvd_trans h1 hA);rwa [hc] at h7
theorem zqE (a b:Rat){mA mB:Nat}{t:Int}(hA:mA=a.den / Nat.gcd a.den b.den)(hB:mB=b.den / Nat.gcd a.den b.den)(ht:t=a.num*mB+b.num*mA):
  (a+b).num=zbc (decide (t<0)) (t.natAbs / Nat.gcd t.natAbs b.den)/\(a+b).den=mA*(b.den / Nat.gcd t.natAbs b.den):=by
 have g0:0<Nat.gcd a.den b.den:=Nat.gcd_pos_of_pos_left _ (Nat.pos_of_ne_zero a.den_nz);have k0:0<Nat.gcd t.natAbs b.den:=Nat.gcd_pos_of_pos_right _ (Nat.pos_of_ne_zero b.den_nz);have ea:Nat.gcd a.den b.den*mA=a.den:=by rw [hA];exact Nat.mul_div_cancel' (Nat.gcd_dvd_left _ _)
 have eb:Nat.gcd a.den b.den*mB=b.den:=by rw [hB];exact Nat.mul_div_cancel' (Nat.gcd_dvd_right _ _)
 have hm:Nat.gcd mA mB=1:=by rw [hA,hB];exact Nat.gcd_div_gcd_div_gcd_of_pos_left (Nat.pos_of_ne_zero a.den_nz)
 have hp:Nat.gcd t.natAbs mA=1:=zrl a.reduced ⟨_,(Nat.mul_comm mA _▸ea).symm⟩ hm ht;have eh:Nat.gcd t.natAbs b.den*(b.den / Nat.gcd t.natAbs b.den)=b.den:=Nat.mul_div_cancel' (Nat.gcd_dvd_right _ _);have et:=zjz t (Nat.gcd t.natAbs b.den) (Nat.gcd_dvd_left _ _);have hq:Nat.gcd (t.natAbs / Nat.gcd t.natAbs b.den) (b.den / Nat.gcd t.natAbs b.den)=1:=Nat.gcd_div_gcd_div_gcd_of_pos_right (Nat.pos_of_ne_zero b.den_nz);have c:mA≠0:=λh=>a.den_nz (by rw [<-ea,h];rfl);have r0:b.den / Nat.gcd t.natAbs b.den≠0:=λh=>b.den_nz (by rw [<-eh,h];rfl);refine zpv (Nat.mul_ne_zero c r0) ?_ ?_
 ·rw [zej];refine Nat.Coprime.mul_right ?_ hq;exact Nat.Coprime.coprime_dvd_left (Nat.div_dvd_of_dvd (Nat.gcd_dvd_left _ _)) hp
 ·have e1:a+b=Rat.divInt (a.num*b.den+b.num*a.den) ((a.den*b.den:Nat):Int):=by rw [Rat.add_def'];rfl
  have e2:a.num*(b.den:Int)+b.num*(a.den:Int)=(Nat.gcd a.den b.den:Int)*t:=by
   rw [ht];generalize Nat.gcd a.den b.den=g at*;rw [<-eb,<-ea,Int.natCast_mul,Int.natCast_mul,Int.mul_add,Int.mul_left_comm,Int.mul_left_comm b.num]
  have e3:((a.den*b.den:Nat):Int)=(Nat.gcd a.den b.den:Int)*((mA*b.den:Nat):Int):=by
   generalize Nat.gcd a.den b.den=g at*;rw [<-ea,Nat.mul_assoc,Int.natCast_mul]
  rw [e1,e2,e3,Rat.divInt_mul_left om9];generalize Nat.gcd t.natAbs b.den=h at*;have e4:((mA*b.den:Nat):Int)=(h:Int)*((mA*(b.den / h):Nat):Int):=by
   conv=>lhs;rw [<-eh]
   rw [Nat.mul_left_comm,Int.natCast_mul]
  rw [e4]
  conv=>lhs;rw [et]
  exact Rat.divInt_mul_left om9
theorem zqG (a b:Rat):(a*b).num=zbc (decide (a.num<0) !=decide (b.num<0)) (a.num.natAbs / Nat.gcd a.num.natAbs b.den*(b.num.natAbs / Nat.gcd b.num.natAbs a.den))/\
  (a*b).den=a.den / Nat.gcd b.num.natAbs a.den*(b.den / Nat.gcd a.num.natAbs b.den):=by
 have g0:0<Nat.gcd a.num.natAbs b.den:=Nat.gcd_pos_of_pos_right _ (Nat.pos_of_ne_zero b.den_nz);have k0:0<Nat.gcd b.num.natAbs a.den:=Nat.gcd_pos_of_pos_right _ (Nat.pos_of_ne_zero a.den_nz);have ea:Nat.gcd b.num.natAbs a.den*(a.den / Nat.gcd b.num.natAbs a.den)=a.den:=Nat.mul_div_cancel' (Nat.gcd_dvd_right _ _);have eb:Nat.gcd a.num.natAbs b.den*(b.den / Nat.gcd a.num.natAbs b.den)=b.den:=Nat.mul_div_cancel' (Nat.gcd_dvd_right _ _);have ta:=zjz a.num _ (Nat.gcd_dvd_left a.num.natAbs b.den);have tb:=zjz b.num _ (Nat.gcd_dvd_left b.num.natAbs a.den);have c1:Nat.Coprime (a.num.natAbs / Nat.gcd a.num.natAbs b.den) (b.den / Nat.gcd a.num.natAbs b.den):=Nat.gcd_div_gcd_div_gcd_of_pos_right (Nat.pos_of_ne_zero b.den_nz);have c2:Nat.Coprime (b.num.natAbs / Nat.gcd b.num.natAbs a.den) (a.den / Nat.gcd b.num.natAbs a.den):=Nat.gcd_div_gcd_div_gcd_of_pos_right (Nat.pos_of_ne_zero a.den_nz);have c3 : Nat.Coprime (a.num.natAbs / Nat.gcd a.num.natAbs b.den) (a.den / Nat.gcd b.num.natAbs a.den) :=
  Nat.Coprime.coprime_dvd_left (Nat.div_dvd_of_dvd (Nat.gcd_dvd_left _ _)) (Nat.Coprime.coprime_dvd_right (Nat.div_dvd_of_dvd (Nat.gcd_dvd_right _ _)) a.reduced)
 have c4 : Nat.Coprime (b.num.natAbs / Nat.gcd b.num.natAbs a.den) (b.den / Nat.gcd a.num.natAbs b.den) :=
  Nat.Coprime.coprime_dvd_left (Nat.div_dvd_of_dvd (Nat.gcd_dvd_left _ _)) (Nat.Coprime.coprime_dvd_right (Nat.div_dvd_of_dvd (Nat.gcd_dvd_right _ _)) b.reduced)
 refine zpv (λh=>?_) ?_ ?_
 ·rcases Nat.mul_eq_zero.1 h with h|h
  ·rw [h] at ea;exact a.den_nz ea.symm
  ·rw [h] at eb;exact b.den_nz eb.symm
 ·rw [zej];exact Nat.Coprime.mul_right (Nat.Coprime.mul_left c3 c2) (Nat.Coprime.mul_left c1 c4)
 ·have e1:a*b=Rat.divInt (a.num*b.num) ((a.den*b.den:Nat):Int):=by rw [Rat.mul_def'];rfl
  rw [e1,<-sgnI_mul];generalize a.num.natAbs / Nat.gcd a.num.natAbs b.den=x1 at*;generalize b.num.natAbs / Nat.gcd b.num.natAbs a.den=x2 at*;generalize b.den / Nat.gcd a.num.natAbs b.den=y2 at*;generalize a.den / Nat.gcd b.num.natAbs a.den=y1 at*;generalize Nat.gcd a.num.natAbs b.den=g at*;generalize Nat.gcd b.num.natAbs a.den=k at*;generalize zbc (decide (a.num<0)) x1=u1 at*;generalize zbc (decide (b.num<0)) x2=u2 at*;have e2:a.num*b.num=((g*k:Nat):Int)*(u1*u2):=by
   rw [ta,tb,Int.natCast_mul];simp only [Int.mul_assoc,Int.mul_left_comm]
  have e3:((a.den*b.den:Nat):Int)=((g*k:Nat):Int)*((y1*y2:Nat):Int):=by
   rw [<-ea,<-eb,<-Int.natCast_mul];congr 1;simp only [Nat.mul_left_comm,Nat.mul_comm]
  rw [e2,e3];exact Rat.divInt_mul_left (by have:=Nat.mul_pos g0 k0;omega)
theorem zqF (a:Rat)(h:a≠0):(a⁻¹).num=zbc (decide (a.num<0)) a.den/\(a⁻¹).den=a.num.natAbs:=by
 have hn:a.num≠0:=λe=>h (Rat.num_eq_zero.1 e);constructor
 ·rw [Rat.num_inv];unfold zbc;rcases Int.lt_or_gt_of_ne hn with h1|h1
  ·rw [Int.sign_eq_neg_one_of_neg h1,decide_eq_true h1,if_pos rfl];omega
  ·rw [Int.sign_eq_one_of_pos h1,decide_eq_false om9,if_neg de9];omega
 ·rw [Rat.den_inv,if_neg hn]
theorem zqH (a:Rat):(-a).num=zbc (!decide (a.num<0)) a.num.natAbs/\(-a).den=a.den:=by
 refine⟨?_,rfl⟩;rw [Rat.neg_num];unfold zbc;by_cases h:a.num<0
 ·simp [h];omega
 ·simp [h];omega
theorem zrp {a b:Rat}(ha:a.den=1)(hb:b.den=1):(a+b)=((a.num+b.num:Int):Rat):=by
 have h1:a=((a.num:Int):Rat):=Rat.ext (by rw [Rat.num_intCast]) (by rw [Rat.den_intCast,ha]);have h2:b=((b.num:Int):Rat):=Rat.ext (by rw [Rat.num_intCast]) (by rw [Rat.den_intCast,hb]);rw [Rat.intCast_add,<-h1,<-h2]
theorem zhO {a b:Rat}(h:a=0\/b=0\/a.den=1/\b.den=1):(a*b)=((a.num*b.num:Int):Rat):=by
 rcases h with h|h|⟨ha,hb⟩
 ·subst h;rw [Rat.zero_mul,show(0:Rat).num=0 from rfl,Int.zero_mul];rfl
 ·subst h;rw [Rat.mul_zero,show(0:Rat).num=0 from rfl,Int.mul_zero];rfl
 ·have h1:a=((a.num:Int):Rat):=Rat.ext (by rw [Rat.num_intCast]) (by rw [Rat.den_intCast,ha]);have h2:b=((b.num:Int):Rat):=Rat.ext (by rw [Rat.num_intCast]) (by rw [Rat.den_intCast,hb]);rw [Rat.intCast_mul,<-h1,<-h2]
open Go Go.RowKit Go.Proofs.Tryz
set_option maxHeartbeats 16000000
set_option linter.unusedVariables false
theorem zbX {P:Program}{f:FuncId}{args:Array Value}{w:World}{z v:Int}(e:z=v)(h:Calls P f args w (zcl w z)):Calls P f args w λe w'=>e=.returned (.int .i64 v)/\Below w.heap.size w w':=by
 subst e;exact h
theorem zaz {P:Program}{f:FuncId}{args:Array Value}{w:World}{b t:Bool}(e:b=t)(h:Calls P f args w λe w'=>e=.returned (.bool b)/\Below w.heap.size w w'):Calls P f args w λe w'=>e=.returned (.bool t)/\Below w.heap.size w w':=by
 subst e;exact h
theorem inew_pos {T:World->Prop}(IC:IntC T)(x:Nat)(A:oA9)(n c:Nat)(w:World)(hT:T w)(h:zaf w x A n c)(hn:n<=268435456):Calls prog 161 #[.bool false,.agg #[.slice A n c]] w (zbi w (x:Int)):=
 IC.new false x A n c w hT h hn
open Go Go.RowKit Go.Proofs.Tryz
set_option maxHeartbeats 16000000
theorem under_N:prog.underlying 56=some (.slice 3):=kr9
open Go Go.RowKit Go.Proofs.Tryz
set_option maxHeartbeats 16000000
set_option maxRecDepth 100000
set_option linter.unusedVariables false
set_option linter.unusedSimpArgs false
def Aside (v:Value)(B:oA9)(m:Nat):Prop:=0<m->∀ad,B=some ad->v.ownBlock≠some ad.block
theorem Aside.words {w w':World}{v v':Value}{x m d:Nat}{B:oA9}(h:Aside v B m)(hx:zaf w x B m d)(hg:zhv w v w' v'):zaf w' x B m d/\Aside v' B m:=by
 refine⟨zid hx hg.grown (λhm ad e=>(h hm ad e).symm),λhm ad e=>?_⟩;rcases hg.at_ with h1|h1
 ·rw [h1];exact h hm ad e
 ·intro h2;have:=h1 _ h2;obtain⟨ad',e',hb,_⟩:=hx.1.2 hm;rw [e] at e';injection e' with e';subst e';omega
theorem zhv.blk {w w':World}{v v':Value}{base g n:Nat}{t e:TypeId}{cs:Array Value}{vs:List Value}(h:zhv w v w' v')(hv:w.ownsRow base e 1 v n vs)(hk:Blk w g t cs)(hg:g<base):Blk w' g t cs:=
 hk.grown h.grown (λe=>by have:=(hv.lt g e.symm).1;omega)
def zgU (x y:Nat)(D:List Nat):Prop:=Dgs 10 D/\dv 10 D+10^D.length*y=x
theorem zgU.start (x:Nat):zgU x x []:=⟨λd hd=>by simp at hd,by simp [dv]⟩
theorem zgU.step {x y:Nat}{D:List Nat}(h:zgU x y D):zgU x (y / 10000000000000000000) (D++lowD 19 (y%10000000000000000000)):=by
 refine⟨h.1.append (lowD_dgs _ _),?_⟩;rw [zbt,List.length_append,zmR,zpx,Nat.pow_add,show(10:Nat)^19=10000000000000000000 from rfl,Nat.mod_mod,Nat.mul_assoc,Nat.add_assoc,<-Nat.mul_add,Nat.mod_add_div];exact h.2
theorem zgU.done {x:Nat}{D:List Nat}(h:zgU x 0 D):dv 10 D=x:=by have:=h.2;simpa using this
theorem zgU.len {x y:Nat}{D:List Nat}(h:zgU x y D)(hy:y≠0):10^D.length<=x:=by
 have:=h.2;have h1:10^D.length*1<=10^D.length*y:=Nat.mul_le_mul_left _ om9;omega
open Go Go.RowKit Go.Proofs.Tryz
set_option maxHeartbeats 16000000
set_option maxRecDepth 100000
set_option linter.unusedVariables false
set_option linter.unusedSimpArgs false
open Go Go.RowKit Go.Proofs.Tryz
set_option maxHeartbeats 16000000
set_option maxRecDepth 100000
set_option linter.unusedVariables false
set_option linter.unusedSimpArgs false
theorem zed {w:World}{g:Nat}(h:Blk w g 3 #[.int .i64 1]):zal w 1 (some ⟨g,0,none⟩) 1 1:=by
 have e:dg 65536 1=[1]:=by
  rw [zen de9 de9];rfl
 refine⟨?_,Nat.le_refl _,om9⟩;rw [e];refine⟨rfl,λ_=>⟨_,rfl,h.lt,λj u hu=>?_⟩⟩
 match j,hu with
 |0,hu=>simp [zaw] at hu;subst hu;exact h.cell 0
