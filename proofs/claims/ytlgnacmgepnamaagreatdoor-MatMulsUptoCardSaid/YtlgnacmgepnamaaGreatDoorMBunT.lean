/- What this claim leans on. -/
import Derived.Test.YtlgnacmgepnamaaGreatDoorMBunQ
import Derived.Laws.BytesArg
namespace Go.Proofs.YtlgnacmgepnamaaGreatDoor
open Go Go.RowKit
set_option maxHeartbeats 16000000
def zao (w:World):Prop:=∀j,j<Lib.deBruijn64tab.length->w.cell? ⟨0,j,none⟩=some (.int .u8 (Lib.deBruijn64tab.getD j 0:Nat))
theorem zao.below {B:Nat}{w w':World}(h:zao w)(hb:Below B w w')(hB:0<B):zao w':=λj hj=>(hb.cell (p:=⟨0,j,none⟩) hB).trans (h j hj)
theorem zao.drewN {w:World}(h:zao w)(n:Nat):zao (w.drewN n):=h
theorem zao.on {w w':World}(h:zao w)(hb:Below w.heap.size w w'):zao w':=h.below hb (by
 have:=h 0 (by decide)
 exact World.block_lt_of_cell? w _ this)
theorem tz_key (x a:Nat)(hx:x<18446744073709551616)(hx0:x≠0)(hlow:x&&&(18446744073709551616 - x)=a):
  IntKind.u64.wrap (bits BinOp.and IntKind.u64 (x:Int) (IntKind.u64.wrap (-(x:Int)))*285870213051353865) / 288230376151711744=((a*285870213051353865%18446744073709551616 / 288230376151711744:Nat):Int):=by
 have e1:IntKind.u64.wrap (-(x:Int))=((18446744073709551616 - x:Nat):Int):=by rw [IntKind.wrap_u64];omega
 rw [e1,bits_and_u64_nat x _ hx (by omega),hlow,IntKind.wrap_u64]
 omega
theorem zkY (x k idx:Nat)(w:World)(hx0:((x:Int)==0)=false)
  (key:IntKind.u64.wrap (bits BinOp.and IntKind.u64 (x:Int) (IntKind.u64.wrap (-(x:Int)))*285870213051353865) / 288230376151711744=(idx:Int))
  (hi:idx<64) (hk:k<64) (hcell:w.cell? ⟨0,idx,none⟩=some (.int .u8 k)):
  Calls Tryz.prog 191 #[.int .u64 x] w λe w'=>e=.returned (.int .i64 k)/\w=w':=by
 go_enter Tryz.func191,Tryz.ntmps191
 go_wp2_with (simp only [key])
 go_ret
 exact⟨rfl,rfl⟩
theorem zkZ (w:World):
  Calls Tryz.prog 191 #[.int .u64 0] w λe w'=>e=.returned (.int .i64 64)/\w=w':=by
 go_enter Tryz.func191,Tryz.ntmps191
 go_wp2
 go_ret
 exact⟨rfl,rfl⟩
theorem zoF (x:Int)(hx:Wd x)(w:World)(hT:zao w):
  Calls Tryz.prog 191 #[.int .u64 x] w λe w'=>e=.returned (.int .i64 (zge x))/\w=w':=by
 obtain⟨h0,h1⟩:=hx
 obtain⟨x,rfl⟩:=Int.eq_ofNat_of_zero_le h0
 have hN:x<18446744073709551616:=by omega
 unfold zge
 rw [Int.toNat_natCast]
 by_cases hx0:x=0
 ·subst hx0
  exact zkZ w
 ·obtain⟨hlow,hk⟩:=Lib.lowest_bit 64 x hx0 hN
  obtain⟨hi,htab⟩:=Lib.deBruijn64_at _ hk
  have hcell:=hT _ hi
  rw [htab] at hcell
  exact zkY x _ _ w (by simp;omega) (tz_key x _ hN hx0 hlow) hi hk hcell
theorem znU (x:Int)(hx:Wd x)(w:World)(hT:zao w):
  Calls Tryz.prog 180 #[.int .u64 x] w λe w'=>e=.returned (.int .i64 (zge x))/\w=w':=by
 have H:=lh9 (zoF x hx w hT)
 clear hT
 go_enter Tryz.func180,Tryz.ntmps180
 go_wp2_with (go_at_call 191;refine H.out.mono ?_;rintro e w' ⟨rfl,rfl⟩)
 go_ret
 exact⟨rfl,rfl⟩
set_option linter.unusedVariables false
def zcE (w:World)(q r:Nat)(b:Bool)(e:Ending)(w':World):Prop:=∃(A:oA9) (n c:Nat) (B:oA9) (m d:Nat),e=.returned (.tuple #[.agg #[.slice A n c],.agg #[.slice B m d],.bool b])/\zag w' q A n c/\zag w' r B m d/\Below w.heap.size w w'
def zez (w:World)(x:Nat)(b:Bool)(e:Ending)(w':World):Prop:=∃(A:oA9) (n c:Nat),e=.returned (.tuple #[.agg #[.slice A n c],.bool b])/\zag w' x A n c/\Below w.heap.size w w'
def zgk (w:World)(q x:Nat)(b:Bool)(e:Ending)(w':World):Prop:=∃(A:oA9) (n c:Nat),e=.returned (.tuple #[.agg #[.slice A n c],.int .u64 (x:Int),.bool b])/\zag w' q A n c/\Below w.heap.size w w'
structure QuotC:Prop where
 divMod:∀(x y:Nat) (A D:oA9) (n m c d:Nat) (w:World),zag w x A n c->zag w y D m d->n<=1073741824->m<=1073741824->y≠0->Calls Tryz.prog 169 #[.agg #[.slice A n c],.agg #[.slice D m d]] w (zcE w (x / y) (x%y) true)
 divModNo:∀(x y:Nat) (A D:oA9) (n m c d:Nat) (w:World),zag w x A n c->zag w y D m d->n<=1073741824->m<=1073741824->y=0->Calls Tryz.prog 169 #[.agg #[.slice A n c],.agg #[.slice D m d]] w (zcE w 0 0 false)
 div:∀(x y:Nat) (A D:oA9) (n m c d:Nat) (w:World),zag w x A n c->zag w y D m d->n<=1073741824->m<=1073741824->y≠0->Calls Tryz.prog 150 #[.agg #[.slice A n c],.agg #[.slice D m d]] w (zez w (x / y) true)
 mod:∀(x y:Nat) (A D:oA9) (n m c d:Nat) (w:World),zag w x A n c->zag w y D m d->n<=1073741824->m<=1073741824->y≠0->Calls Tryz.prog 177 #[.agg #[.slice A n c],.agg #[.slice D m d]] w (zez w (x%y) true)
 byWord:∀(x a:Nat) (A:oA9) (n c:Nat) (w:World),zag w x A n c->n<=1073741824->a<18446744073709551616->a≠0->Calls Tryz.prog 181 #[.agg #[.slice A n c],.int .u64 a] w (zgk w (x / a) (x%a) true)
 byWordNo:∀(x:Nat) (A:oA9) (n c:Nat) (w:World),zag w x A n c->n<=1073741824->Calls Tryz.prog 181 #[.agg #[.slice A n c],.int .u64 0] w (zgk w 0 0 false)
def zgQ (x y:Int):Int:=if x<y then -1 else if x=y then 0 else 1
theorem zhD (x y:Int):zgQ x y=0↔x=y:=by unfold zgQ;split<;>(try split)<;>omega
def zes (x:Int):Int:=if x<0 then -1 else if x=0 then 0 else 1
theorem sgnZ_eq (x:Int):zes x=0↔x=0:=by unfold zes;split<;>(try split)<;>omega
def zcU (w:World)(x:Nat)(e:Ending)(w':World):Prop:=∃(A:oA9) (n c:Nat),e=.returned (.agg #[.slice A n c])/\zag w' x A n c/\Below w.heap.size w w'
def zki (w:World)(x y:Nat)(e:Ending)(w':World):Prop:=∃(A:oA9) (n c:Nat) (B:oA9) (m d:Nat),e=.returned (.tuple #[.agg #[.slice A n c],.agg #[.slice B m d]])/\zag w' x A n c/\zag w' y B m d/\Below w.heap.size w w'
theorem Sz.gcd {K K' x y:Nat}(h:Sz K x)(h':Sz K' y):Sz (K+K') (Nat.gcd x y):=by
 rcases Nat.eq_zero_or_pos x with e|e
 ·rw [e,Nat.gcd_zero_left];exact h'.up (by omega)
 ·exact(h.of_le (Nat.gcd_le_left y e)).up (by omega)
structure GcdC:Prop where
 of:∀(x y:Nat) (A D:oA9) (n m c d:Nat) (w:World),zag w x A n c->zag w y D m d->n<=1073741824->m<=1073741824->zao w->Calls Tryz.prog 149 #[.agg #[.slice A n c],.agg #[.slice D m d]] w (zcU w (Nat.gcd x y))
 reduce:∀(x y:Nat) (A D:oA9) (n m c d:Nat) (w:World),zag w x A n c->zag w y D m d->n<=1073741824->m<=1073741824->zao w->Calls Tryz.prog 127 #[.agg #[.slice A n c],.agg #[.slice D m d]] w (zki w (x / Nat.gcd x y) (y / Nat.gcd x y))
def zck (w:World)(t:TypeId)(g cap n:Nat)(L:List Nat):Prop:=
 ∃cur,Blk w g t cur/\n<=cap/\cap<=maxLen/\cur.size=cap/\L.length=n/\cur.toList.take n=zaw .u8 L
section
variable {w w':World}{t:TypeId}{g cap n:Nat}{L:List Nat}
theorem zck.len (h:zck w t g cap n L):L.length=n:=by obtain⟨_,_,_,_,_,h,_⟩:=h;exact h
theorem zck.room (h:zck w t g cap n L):n<=cap/\cap<=maxLen:=by obtain⟨_,_,h,h2,_⟩:=h;exact⟨h,h2⟩
theorem zck.lt (h:zck w t g cap n L):g<w.heap.size:=by obtain⟨_,h,_⟩:=h;exact h.lt
theorem zck.cell (h:zck w t g cap n L)(k:Nat)(hk:k<n):w.cell? ⟨g,k,none⟩=some (.int .u8 (L.getD k 0:Nat)):=by
 obtain⟨cur,hb,h1,h2,h3,h4,h5⟩:=h
 rw [hb.cell k,<-Array.getElem?_toList,<-zcu .u8 L k (by omega),<-h5,List.getElem?_take,if_pos hk]
theorem zck.frozen (h:zck w t g cap n L)(k:Nat):w.frozen? ⟨g,k,none⟩=false:=by
 obtain⟨cur,hb,_⟩:=h
 exact hb.frozen k
theorem zck.set_ (h:zck w t g cap n L)(k d:Nat)(hk:k<n):zck (w.setCell ⟨g,k,none⟩ (.int .u8 (d:Int))) t g cap n (L.set k d):=by
 obtain⟨cur,hb,h1,h2,h3,h4,h5⟩:=h
 refine⟨_,hb.set_ k _,h1,h2,by simpa using h3,by simpa using h4,?_⟩
 rw [Array.toList_setIfInBounds,List.take_set,h5]
 unfold zaw
 rw [List.map_set]
theorem zck.below {B:Nat}(h:zck w t g cap n L)(hb:Below B w w')(hg:g<B):zck w' t g cap n L:=by
 obtain⟨cur,h0,h1⟩:=h
 exact⟨cur,h0.below hb hg,h1⟩
theorem zck.keep (h:zck w t g cap n L)(hb:Below w.heap.size w w'):zck w' t g cap n L:=h.below hb h.lt
theorem zck.drew (h:zck w t g cap n L):zck w.drew t g cap n L:=h
theorem zck.alloc (h:zck w t g cap n L)(o:Obj):zck (w.alloc o) t g cap n L:=by
 obtain⟨cur,h0,h1⟩:=h
 exact⟨cur,h0.alloc o,h1⟩
theorem zck.far (h:zck w t g cap n L){p:Addr}(hp:g≠p.block)(u:Value):zck (w.setCell p u) t g cap n L:=by
 obtain⟨cur,h0,h1⟩:=h
 exact⟨cur,h0.far hp u,h1⟩
theorem zck.reads (h:zck w t g cap n L):zau w w.heap.size 1 (some ⟨g,0,none⟩) n (zaw .u8 L):=by
 have hl:=h.lt
 have hc:=h.cell
 have hn:=h.len
 refine⟨by rw [zaC];omega,λ_=>⟨_,rfl,hl,λj u hu=>?_⟩⟩
 have hj:j<L.length:=by
  rcases Nat.lt_or_ge j L.length with hj|hj
  ·exact hj
  ·rw [List.getElem?_eq_none (by rw [zaC];exact hj)] at hu;cases hu
 have e:(⟨g,0,none⟩:Addr).add j=⟨g,j,none⟩:=by unfold Addr.add;split<;>simp_all
 rw [e,hc j (by omega),<-zcu .u8 L j hj,hu]
theorem zck.own (h:zck w t g cap n L){base:Nat}(hb:base<=g):w.ownsRow base t 1 (.slice (some ⟨g,0,none⟩) n cap) n (zaw .u8 L):=by
 obtain⟨cur,h0,h1,h2,h3,h4,h5⟩:=h
 exact⟨by rw [zaC];omega,.inr ⟨g,cap,cur,rfl,hb,h0,h1,h2,by omega,by rw [Nat.mul_one];exact h5⟩⟩
theorem zck.made (w:World)(t:TypeId)(N:Nat)(hN:N<=maxLen):zck (w.alloc (.cells (madeCells (Value.cells (.int .u8 0)) N) t)) t w.heap.size N N (List.replicate N 0):=by
 refine⟨_,Blk.new w t _,Nat.le_refl _,hN,size_madeCells _ _,by simp,?_⟩
 show(madeCells #[Value.int .u8 0] N).toList.take N=_
 rw [toList_madeCells_one,List.take_of_length_le (by simp)]
 simp [zaw]
theorem zck.of_own {base:Nat}{v:Value}{l:List Nat}(h:w.ownsRow base t 1 v n (zaw .u8 l))(hn:0<n):∃g cap,v=.slice (some ⟨g,0,none⟩) n cap/\base<=g/\zck w t g cap n l:=by
 obtain⟨h1,h2⟩:=h
 rcases h2 with⟨_,h⟩|⟨g,cap,cur,e,hb,hk,a,b,c,d⟩
 ·omega
 ·refine⟨g,cap,e,hb,cur,hk,a,b,by omega,by rw [zaC] at h1;omega,?_⟩
  rw [Nat.mul_one] at d
  exact d
end
set_option maxRecDepth 100000
set_option linter.unusedSimpArgs false
structure zgN (w:World)(v:Value)(w':World)(v':Value):Prop where
 grown:w.grownBy w' v.ownBlock
 at_:v'.ownBlock=v.ownBlock\/∀g,v'.ownBlock=some g->w.heap.size<=g
theorem zgN.refl (w:World)(v:Value):zgN w v w v:=⟨World.grownBy.refl _ _,.inl rfl⟩
theorem zgN.alloc (w:World)(v:Value)(o:Obj):zgN w v (w.alloc o) v:=⟨World.grownBy_alloc w o _,.inl rfl⟩
theorem zgN.trans {w w1 w2:World}{v v1 v2:Value}(h:zgN w v w1 v1)(k:zgN w1 v1 w2 v2):zgN w v w2 v2:=by
 refine⟨⟨k.grown.os.trans h.grown.os,k.grown.tape.trans h.grown.tape,k.grown.output.trans h.grown.output,Nat.le_trans h.grown.size k.grown.size,λi hi hne=>?_⟩,?_⟩
 ·refine(k.grown.block i (Nat.lt_of_lt_of_le hi h.grown.size) (λe=>?_)).trans (h.grown.block i hi hne)
  rcases h.at_ with h1|h1
  ·exact hne (by rw [e,h1])
  ·have:=h1 i e.symm;omega
 ·rcases k.at_ with k1|k1
  ·rw [k1];exact h.at_
  ·exact .inr λg hg=>Nat.le_trans h.grown.size (k1 g hg)
theorem zgN.below {w w':World}{v:Value}(hb:Below w.heap.size w w'):zgN w v w' v:=⟨⟨hb.os,hb.tape,hb.output,hb.size,λi hi _=>hb.block i hi⟩,.inl rfl⟩
def lowD (n p:Nat):List Nat:=(List.range n).map λk=>p / 10^k%10
theorem zlP (n p:Nat):(lowD n p).length=n:=by simp [lowD]
theorem zph (n p:Nat):lowD (n+1) p=lowD n p++[p / 10^n%10]:=by simp [lowD,List.range_succ]
theorem lowD_dgs (n p:Nat):Dgs 10 (lowD n p):=by
 intro d hd
 obtain⟨j,_,rfl⟩:=List.mem_map.1 hd
 exact Nat.mod_lt _ (by decide)
theorem zoj (p:Nat):∀n,dv 10 (lowD n p)=p%10^n
 |0=>by simp [lowD,dv,Nat.mod_one]
 |n+1=>by rw [zph,zbt,zoj p n,zlP,zaQ 10 p n]
theorem zlz (l:List Nat)(i k a:Nat):(l.set i a).getD k 0=if i=k/\k<l.length then a else l.getD k 0:=by
 simp only [List.getD_eq_getElem?_getD,List.getElem?_set]
 by_cases h:i=k
 ·subst h
  by_cases h2:i<l.length
  ·simp [h2]
  ·simp [h2]
 ·simp [h]
def zhO (L:List Nat)(i:Nat)(M:List Nat):Prop:=M.length=L.length/\∀j,j<L.length->M.getD j 0=if j<i\/L.length<=j+i then L.getD (L.length - 1 - j) 0 else L.getD j 0
theorem zhO.start (L:List Nat):zhO L 0 L:=⟨rfl,λj hj=>by rw [if_neg (by omega)]⟩
theorem zhO.step {L M:List Nat}{i j:Nat}(h:zhO L i M)(hij:i+j+1=L.length)(hlt:i<j):zhO L (i+1) ((M.set i (M.getD j 0)).set j (M.getD i 0)):=by
 obtain⟨h1,h2⟩:=h
 refine⟨by simpa using h1,λk hk=>?_⟩
 rw [zlz,zlz,List.length_set,h1]
 by_cases hkj:j=k
 ·subst hkj
  rw [if_pos ⟨rfl,hk⟩,if_pos (by omega),h2 i (by omega),if_neg (by omega)]
  congr 1;omega
 ·rw [if_neg (by omega)]
  by_cases hki:i=k
  ·subst hki
   rw [if_pos ⟨rfl,hk⟩,if_pos (by omega),h2 j (by omega),if_neg (by omega)]
   congr 1;omega
  ·rw [if_neg (by omega),h2 k hk]
   by_cases hc:k<i\/L.length<=k+i
   ·rw [if_pos hc,if_pos (by omega)]
   ·rw [if_neg hc,if_neg (by omega)]
theorem zhO.done {L M:List Nat}{i j:Nat}(h:zhO L i M)(hij:i+j+1=L.length)(hle:j<=i):M=L.reverse:=by
 obtain⟨h1,h2⟩:=h
 refine List.ext_getElem (by simpa using h1) λk hk hk2=>?_
 have h3:=h2 k (by omega)
 rw [List.getD_eq_getElem?_getD,List.getElem?_eq_getElem hk] at h3
 rw [List.getElem_reverse]
 have e1:L[L.length - 1 - k]'(by omega)=L.getD (L.length - 1 - k) 0:=by rw [List.getD_eq_getElem?_getD,List.getElem?_eq_getElem (by omega)];rfl
 rw [e1]
 refine Eq.trans h3 ?_
 by_cases hc:k<i\/L.length<=k+i
 ·rw [if_pos hc]
 ·rw [if_neg hc]
  congr 1;omega
theorem Off.drew {g:Nat}{w w':World}(h:Off g w w'):Off g w w'.drew:=⟨h.os,h.tape,h.output,h.size,h.block⟩
