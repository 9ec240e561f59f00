/- What this claim leans on. -/
import Derived.Test.YtghpdeciaaagnaaGreatDoorIBunQ
import Derived.Deep.RegionHeld
import Derived.Deep.RegionLaw
import Derived.Laws.BytesArg
namespace Go.Proofs.YtghpdeciaaagnaaGreatDoor
open Go Go.RowKit
set_option maxHeartbeats 16000000
def zai (w:World):Prop:=∀j,j<Lib.deBruijn64tab.length->w.cell? ⟨0,j,none⟩=some (.int .u8 (Lib.deBruijn64tab.getD j 0:Nat))
theorem zai.below {B:Nat}{w w':World}(h:zai w)(hb:Below B w w')(hB:0<B):zai w':=λj hj=>(hb.cell (p:=⟨0,j,none⟩) hB).trans (h j hj)
theorem zai.drewN {w:World}(h:zai w)(n:Nat):zai (w.drewN n):=h
theorem zai.on {w w':World}(h:zai w)(hb:Below w.heap.size w w'):zai w':=h.below hb (by
 have:=h 0 (by decide)
 exact World.block_lt_of_cell? w _ this)
theorem tz_key (x a:Nat)(hx:x<18446744073709551616)(hx0:x≠0)(hlow:x&&&(18446744073709551616 - x)=a):
  IntKind.u64.wrap (bits BinOp.and IntKind.u64 (x:Int) (IntKind.u64.wrap (-(x:Int)))*285870213051353865) / 288230376151711744=((a*285870213051353865%18446744073709551616 / 288230376151711744:Nat):Int):=by
 have e1:IntKind.u64.wrap (-(x:Int))=((18446744073709551616 - x:Nat):Int):=by rw [IntKind.wrap_u64];omega
 rw [e1,bits_and_u64_nat x _ hx (by omega),hlow,IntKind.wrap_u64]
 omega
theorem zmj (x k idx:Nat)(w:World)(hx0:((x:Int)==0)=false)
  (key:IntKind.u64.wrap (bits BinOp.and IntKind.u64 (x:Int) (IntKind.u64.wrap (-(x:Int)))*285870213051353865) / 288230376151711744=(idx:Int))
  (hi:idx<64) (hk:k<64) (hcell:w.cell? ⟨0,idx,none⟩=some (.int .u8 k)):
  Calls Tryz.prog 224 #[.int .u64 x] w λe w'=>e=.returned (.int .i64 k)/\w=w':=by
 go_enter Tryz.func224,Tryz.ntmps224
 go_wp2_with (simp only [key])
 go_ret
 exact⟨rfl,rfl⟩
theorem zmk (w:World):
  Calls Tryz.prog 224 #[.int .u64 0] w λe w'=>e=.returned (.int .i64 64)/\w=w':=by
 go_enter Tryz.func224,Tryz.ntmps224
 go_wp2
 go_ret
 exact⟨rfl,rfl⟩
theorem zpQ (x:Int)(hx:Wd x)(w:World)(hT:zai w):
  Calls Tryz.prog 224 #[.int .u64 x] w λe w'=>e=.returned (.int .i64 (zgS x))/\w=w':=by
 obtain⟨h0,h1⟩:=hx
 obtain⟨x,rfl⟩:=Int.eq_ofNat_of_zero_le h0
 have hN:x<18446744073709551616:=by omega
 unfold zgS
 rw [Int.toNat_natCast]
 by_cases hx0:x=0
 ·subst hx0
  exact zmk w
 ·obtain⟨hlow,hk⟩:=Lib.lowest_bit 64 x hx0 hN
  obtain⟨hi,htab⟩:=Lib.deBruijn64_at _ hk
  have hcell:=hT _ hi
  rw [htab] at hcell
  exact zmj x _ _ w (by simp;omega) (tz_key x _ hN hx0 hlow) hi hk hcell
theorem zpl (x:Int)(hx:Wd x)(w:World)(hT:zai w):
  Calls Tryz.prog 214 #[.int .u64 x] w λe w'=>e=.returned (.int .i64 (zgS x))/\w=w':=by
 have H:=lh9 (zpQ x hx w hT)
 clear hT
 go_enter Tryz.func214,Tryz.ntmps214
 go_wp2_with (go_at_call 224;refine H.out.mono ?_;rintro e w' ⟨rfl,rfl⟩)
 go_ret
 exact⟨rfl,rfl⟩
set_option linter.unusedVariables false
def zhM (x y:Int):Int:=if x<y then -1 else if x=y then 0 else 1
theorem ziG (x y:Int):zhM x y=0↔x=y:=by unfold zhM;split<;>(try split)<;>omega
def ziB (x:Int):Int:=if x<0 then -1 else if x=0 then 0 else 1
def qI (x y:Int):Int:=if 0<=y then x / y else(-x) / (-y)
def rI (x y:Int):Int:=if 0<=y then x%y else -((-x)%(-y))
theorem qI_rI (x y:Int):qI x y*y+rI x y=x:=by
 unfold qI rI
 split
 ·rw [Int.mul_comm];exact Int.mul_ediv_add_emod x y
 ·have h:=Int.mul_ediv_add_emod (-x) (-y)
  rw [Int.neg_mul] at h
  rw [Int.mul_comm]
  omega
theorem rI_abs {x y:Int}(hy:y≠0):(rI x y).natAbs<y.natAbs:=by
 unfold rI
 split
 ·have h1:=Int.emod_nonneg x hy
  have h2:=Int.emod_lt_of_pos x (show 0<y by omega)
  omega
 ·have h1:=Int.emod_nonneg (-x) (show -y≠0 by omega)
  have h2:=Int.emod_lt_of_pos (-x) (show 0< -y by omega)
  omega
theorem rI_side {x y:Int}(hy:y≠0):rI x y=0\/(0<rI x y/\0<y\/rI x y<0/\y<0):=by
 unfold rI
 split
 ·have h1:=Int.emod_nonneg x hy
  omega
 ·have h1:=Int.emod_nonneg (-x) (show -y≠0 by omega)
  omega
def zaG (w:World)(z:Int)(b:Bool)(A:oA9)(n c:Nat):Prop:=b=decide (z<0)/\zad w z.natAbs A n c
theorem zaG.below {w w':World}{z:Int}{b:Bool}{A:oA9}{n c:Nat}(h:zaG w z b A n c)(hb:Below w.heap.size w w'):zaG w' z b A n c:=⟨h.1,h.2.below hb⟩
theorem zaG.words {w:World}{z:Int}{b:Bool}{A:oA9}{n c:Nat}(h:zaG w z b A n c):zad w z.natAbs A n c:=h.2
def zbc (w:World)(z:Int)(e:Ending)(w':World):Prop:=∃(b:Bool) (A:oA9) (n c:Nat),e=.returned (.agg #[.bool b,.slice A n c])/\zaG w' z b A n c/\Below w.heap.size w w'
def zeQ (w:World)(x:Nat)(e:Ending)(w':World):Prop:=∃(A:oA9) (n c:Nat),e=.returned (.agg #[.slice A n c])/\zad w' x A n c/\Below w.heap.size w w'
structure IntC (T:World->Prop):Prop where
 new:∀(s:Bool) (x:Nat) (A:oA9) (n c:Nat) (w:World),T w->zad w x A n c->n<=268435456->Calls Tryz.prog 163 #[.bool s,.agg #[.slice A n c]] w (zbc w (if s then -(x:Int) else(x:Int)))
 of:∀(z:Int) (w:World),T w-> -9223372036854775808<=z->z<=9223372036854775807->Calls Tryz.prog 127 #[.int .i64 z] w (zbc w z)
 belowI:∀(z:Int) (b:Bool) (A:oA9) (n c:Nat) (w:World),T w->zaG w z b A n c->n<=268435456->Calls Tryz.prog 107 #[.agg #[.bool b,.slice A n c]] w λe w'=>e=.returned (.bool (decide (z<0)))/\Below w.heap.size w w'
 abs:∀(z:Int) (b:Bool) (A:oA9) (n c:Nat) (w:World),T w->zaG w z b A n c->n<=268435456->Calls Tryz.prog 104 #[.agg #[.bool b,.slice A n c]] w (zeQ w z.natAbs)
 sign:∀(z:Int) (b:Bool) (A:oA9) (n c:Nat) (w:World),T w->zaG w z b A n c->n<=268435456->Calls Tryz.prog 134 #[.agg #[.bool b,.slice A n c]] w (zcH w (ziB z))
 cmp:∀(x y:Int) (b b':Bool) (A D:oA9) (n m c d:Nat) (w:World),T w->zaG w x b A n c->zaG w y b' D m d->n<=268435456->m<=268435456->Calls Tryz.prog 100 #[.agg #[.bool b,.slice A n c],.agg #[.bool b',.slice D m d]] w (zcH w (zhM x y))
 add:∀(x y:Int) (b b':Bool) (A D:oA9) (n m c d:Nat) (w:World),T w->zaG w x b A n c->zaG w y b' D m d->n<=268435456->m<=268435456->Calls Tryz.prog 177 #[.agg #[.bool b,.slice A n c],.agg #[.bool b',.slice D m d]] w (zbc w (x+y))
 mul:∀(x y:Int) (b b':Bool) (A D:oA9) (n m c d:Nat) (w:World),T w->zaG w x b A n c->zaG w y b' D m d->n<=268435456->m<=268435456->Calls Tryz.prog 102 #[.agg #[.bool b,.slice A n c],.agg #[.bool b',.slice D m d]] w (zbc w (x*y))
set_option maxRecDepth 100000
set_option linter.unusedSimpArgs false
theorem zlt {w:World}{A:oA9}{n c x g:Nat}{t:TypeId}{cs:Array Value}(h:zad w x A n c)(hk:Blk w g t cs)(hcs:∀v ∈ cs.toList,∀z,v≠.int .u64 z):0<n->∀ad,A=some ad->ad.block≠g:=λhn ad e hg=>by
 obtain⟨ad',e',_,hc⟩:=h.1.2 hn
 rw [e] at e'
 injection e' with e'
 subst e'
 have hl:=h.len
 have h0:=hc 0 (.int .u64 ((dg 18446744073709551616 x).getD 0 0:Nat)) (zcX .u64 _ 0 (by omega))
 have e0:ad.add 0=ad:=by unfold Addr.add;rw [if_pos rfl]
 rw [e0] at h0
 obtain⟨bk,off,pr⟩:=ad
 simp only at hg
 subst hg
 unfold Blk at hk
 cases pr with
 |none=>
   rw [show w.cell? ⟨bk,off,none⟩=cs[off]? from cell_of_row w bk off _ t (0,0) hk,<-Array.getElem?_toList] at h0
   exact hcs _ (List.mem_of_getElem? h0) _ rfl
 |some q=>simp [World.cell?,hk] at h0
theorem zbx {w:World}{z:Int}{b p:Bool}{A q:oA9}{n c r s g:Nat}{t:TypeId}(h:zaG w z b A n c)(hk:Blk w g t #[.bool p,.slice q r s])(p':Bool)(q':oA9)(r' s':Nat):
  zaG ((w.setCell ⟨g,0,none⟩ (.bool p')).setCell ⟨g,1,none⟩ (.slice q' r' s')) z b A n c:=by
 have h1:=zfl (p:=⟨g,0,none⟩) h.2 (zlt h.2 hk (by intro v hv;simp at hv;rcases hv with rfl|rfl<;>intro z e<;>cases e)) (.bool p')
 exact⟨h.1,zfl (p:=⟨g,1,none⟩) h1 (zlt h1 (hk.set_ 0 (.bool p')) (by intro v hv;simp at hv;rcases hv with rfl|rfl<;>intro z e<;>cases e)) _⟩
def due (l:Array Bool):Nat:=l.toList.countP λb=> !b
section
variable {P:Program}{ops:Array Oper}{Q:Exit->Act->World->Prop}{md:Region.Mode}{S:World->Prop}
theorem zak {i:Nat}{l:Array Bool}(hi:i ∈ Region.ready md ops l):l.getD i true=false:=(mem_ready.1 hi).1
theorem zdZ {i:Nat}{l:Array Bool}(hi:i ∈ Region.ready md ops l):i<ops.size:=by
 obtain⟨_,o,ho,_⟩:=mem_ready.1 hi
 exact(Array.getElem?_eq_some_iff.1 ho).1
theorem zqW {i k:Nat}{l:Array Bool}{o:Oper}{e:Edge}(hi:i ∈ Region.ready md ops l)(ho:ops[i]?=some o)(he:o.after[k]?=some e)(hb:Region.binds md e=true):l.getD e.on false=true:=by
 obtain⟨_,o',ho',h⟩:=mem_ready.1 hi
 rw [ho] at ho'
 cases ho'
 exact h e (Array.mem_of_getElem? he) hb
theorem znS {i:Nat}{l:Array Bool}{o:Oper}(h:Region.ready md ops l=[])(ho:ops[i]?=some o)(hr:(o.after.toList.all λe=> !Region.binds md e||l.getD e.on false)=true):l.getD i true=true:=by
 cases hl:l.getD i true
 ·have:i ∈ Region.ready md ops l:=mem_ready.2 ⟨hl,o,ho,λe he hb=>by
   have:=List.all_eq_true.1 hr e (by simpa using he)
   rw [hb] at this
   simpa using this⟩
  rw [h] at this
  cases this
 ·rfl
theorem zpt {i:Nat}{l:Array Bool}(h:l.getD i true=false):due (l.setIfInBounds i true)+1=due l:=by
 obtain⟨l⟩:=l
 unfold due
 have hi:i<l.length:=by
  rcases Nat.lt_or_ge i l.length with h'|h'
  ·exact h'
  ·simp [List.getElem?_eq_none h'] at h
 have hv:l[i]=false:=by simpa [hi] using h
 simp only [List.setIfInBounds_toArray]
 clear h
 induction l generalizing i with
 |nil=>simp at hi
 |cons b t ih=>
   cases i with
   |zero=>
     have hb:b=false:=hv
     subst hb
     simp
   |succ j=>
     have:=ih (i:=j) (by simpa using hi) (by simpa using hv)
     simp only [List.set_cons_succ,List.countP_cons]
     omega
theorem zqo {l:Array Bool}(h:due l=0):Region.ready md ops l=[]:=by
 refine List.eq_nil_iff_forall_not_mem.2 λi hi=>?_
 have:=zpt (zak hi)
 omega
theorem zmq {J:Act->Array Bool->Act->World->Prop}{L:Array Bool}{a0:Act}(hfull:∀l a w,J a0 l a w->Region.ready md ops l=[]->l=L)
  (hstep:∀l a w i,J a0 l a w->l≠L->i ∈ Region.ready md ops l->wpOp P ops Q i (λa' w'=>S w'/\J a0 (l.setIfInBounds i true) a' w') a w)
  (hgoal:∀a w,J a0 L a w->wpAnyH P md ops Q S (due L) L a w):∀(fuel:Nat) (l:Array Bool) (a:Act) (w:World),due l=fuel->J a0 l a w->wpAnyH P md ops Q S fuel l a w:=by
 intro fuel
 induction fuel with
 |zero=>
   intro l a w hd hJ
   have e:=hfull l a w hJ (zqo hd)
   subst e
   have:=hgoal a w hJ
   rwa [hd] at this
 |succ n ih=>
   intro l a w hd hJ
   by_cases hl:l=L
   ·subst hl
    have:=hgoal a w hJ
    rwa [hd] at this
   ·refine⟨λh=>absurd (hfull l a w hJ h) hl,λi hi=>?_⟩
    exact wpOp_mono (λa' w' ⟨h1,h2⟩=>⟨h1,ih _ a' w' (by have:=zpt (zak hi);omega) h2⟩) (hstep l a w i hJ hl hi)
end
def Gd (f:Bool)(p:Prop):Prop:=f=true->p
theorem Gd.no {p:Prop}:Gd false p:=λh=>by cases h
theorem Gd.yes {p:Prop}(h:p):Gd true p:=λ_=>h
theorem Gd.get {p:Prop}(h:Gd true p):p:=h rfl
theorem Gd.mono {f:Bool}{p q:Prop}(h:Gd f p)(k:p->q):Gd f q:=λe=>k (h e)
def Made (b:Nat)(w:World)(g:Nat)(t:TypeId)(cs:Array Value)(v:Value):Prop:=v=.pointer (some ⟨g,0,none⟩)/\b<=g/\w.heap[g]?=some (.cells cs t (0,0))
theorem Made.lt {b g:Nat}{w:World}{t:TypeId}{cs:Array Value}{v:Value}(h:Made b w g t cs v):g<w.heap.size:=(Array.getElem?_eq_some_iff.1 h.2.2).1
theorem Made.keep {b g:Nat}{w w':World}{t:TypeId}{cs:Array Value}{v:Value}(h:Made b w g t cs v)(hb:Below w.heap.size w w'):Made b w' g t cs v:=⟨h.1,h.2.1,(hb.block g h.lt).trans h.2.2⟩
theorem Made.new (b:Nat)(w:World)(t:TypeId)(cs:Array Value)(hb:b<=w.heap.size):Made b (w.alloc (.cells cs t)) w.heap.size t cs (.pointer (some ⟨w.heap.size,0,none⟩)):=⟨rfl,hb,heap_alloc_new w _⟩
theorem SzI.add {K K':Nat}{x y:Int}(h:Sz K x.natAbs)(h':Sz K' y.natAbs):Sz (K+K'+1) (x+y).natAbs:=
 Sz.of_le (Sz.add (h.up (by omega:K<=K+K')) (h'.up (by omega:K'<=K+K'))) (Int.natAbs_add_le x y)
theorem SzI.sub {K K':Nat}{x y:Int}(h:Sz K x.natAbs)(h':Sz K' y.natAbs):Sz (K+K'+1) (x - y).natAbs:=by
 rw [Int.sub_eq_add_neg]
 exact SzI.add h (by rw [Int.natAbs_neg];exact h')
theorem SzI.mul {K K':Nat}{x y:Int}(h:Sz K x.natAbs)(h':Sz K' y.natAbs):Sz (K+K') (x*y).natAbs:=by
 rw [Int.natAbs_mul];exact Sz.mul h h'
theorem SzI.neg {K:Nat}{x:Int}(h:Sz K x.natAbs):Sz K (-x).natAbs:=by rw [Int.natAbs_neg];exact h
theorem qI_le (x y:Int):(qI x y).natAbs<=x.natAbs:=by
 by_cases hy:y=0
 ·subst hy;unfold qI;simp
 ·have h1:=qI_rI x y
  have h2:=rI_abs (x:=x) hy
  have h3:=rI_side (x:=x) hy
  generalize rI x y=r at*
  generalize qI x y=q at*
  by_cases hq:q=0
  ·subst hq;simp
  ·have e:x.natAbs+r.natAbs>=q.natAbs*y.natAbs:=by
    rw [<-Int.natAbs_mul]
    have:=Int.natAbs_sub_le x r
    rw [show x - r=q*y by omega] at this
    exact this
   have hq1:1<=q.natAbs:=by omega
   have hy1:1<=y.natAbs:=by omega
   rcases h3 with h3|h3
   ·subst h3
    have:q.natAbs*1<=q.natAbs*y.natAbs:=Nat.mul_le_mul_left _ hy1
    simp at e
    omega
   ·-- what is left has the divisor's side:the quotient is not farther out than the number
    have e2:(x - r).natAbs=q.natAbs*y.natAbs:=by rw [<-Int.natAbs_mul];congr 1;omega
    rcases Int.lt_trichotomy q 0 with hq0|hq0|hq0
    ·-- below 0:x and y lie on two sides
     have:(q.natAbs - 1)*y.natAbs+y.natAbs=q.natAbs*y.natAbs:=by
      obtain⟨k,hk⟩:∃k,q.natAbs=k+1:=⟨q.natAbs - 1,by omega⟩
      rw [hk,Nat.add_sub_cancel,Nat.add_mul,Nat.one_mul]
     have hm:(q.natAbs - 1)*1<=(q.natAbs - 1)*y.natAbs:=Nat.mul_le_mul_left _ hy1
     by_cases hy2:y.natAbs=1
     ·omega
     ·by_cases hk:q.natAbs=1
      ·have hx0:x≠0:=by
        intro hx
        subst hx
        rw [hk,Nat.one_mul] at e2
        omega
       omega
      ·have hm2:(q.natAbs - 1)*2<=(q.natAbs - 1)*y.natAbs:=Nat.mul_le_mul_left _ (by omega)
       omega
    ·omega
    ·have hxr:x.natAbs=q.natAbs*y.natAbs+r.natAbs:=by
      rcases h3 with⟨ha,hb⟩|⟨ha,hb⟩
      ·have:0<q*y:=Int.mul_pos hq0 hb
       have e3:(q*y).natAbs=q.natAbs*y.natAbs:=Int.natAbs_mul _ _
       omega
      ·have:q*y<0:=Int.mul_neg_of_pos_of_neg hq0 hb
       have e3:(q*y).natAbs=q.natAbs*y.natAbs:=Int.natAbs_mul _ _
       omega
     have:q.natAbs*1<=q.natAbs*y.natAbs:=Nat.mul_le_mul_left _ hy1
     omega
theorem SzI.q {K:Nat}{x:Int}(y:Int)(h:Sz K x.natAbs):Sz K (qI x y).natAbs:=Sz.of_le h (qI_le x y)
section
variable {P:Program}{f:FuncId}{args:Array Value}{w:World}
theorem icmp_eq {x y:Int}(h:x=y)(hc:Calls P f args w (zcH w (zhM x y))):Calls P f args w (zcH w 0):=by rw [(ziG x y).2 h] at hc;exact hc
end
def zcu (w:World)(t:TypeId)(g cap n:Nat)(L:List Nat):Prop:=
 ∃cur,Blk w g t cur/\n<=cap/\cap<=maxLen/\cur.size=cap/\L.length=n/\cur.toList.take n=zaA .u8 L
section
variable {w w':World}{t:TypeId}{g cap n:Nat}{L:List Nat}
theorem zcu.len (h:zcu w t g cap n L):L.length=n:=by obtain⟨_,_,_,_,_,h,_⟩:=h;exact h
theorem zcu.room (h:zcu w t g cap n L):n<=cap/\cap<=maxLen:=by obtain⟨_,_,h,h2,_⟩:=h;exact⟨h,h2⟩
theorem zcu.lt (h:zcu w t g cap n L):g<w.heap.size:=by obtain⟨_,h,_⟩:=h;exact h.lt
theorem zcu.cell (h:zcu w t g cap n L)(k:Nat)(hk:k<n):w.cell? ⟨g,k,none⟩=some (.int .u8 (L.getD k 0:Nat)):=by
 obtain⟨cur,hb,h1,h2,h3,h4,h5⟩:=h
 rw [hb.cell k,<-Array.getElem?_toList,<-zcX .u8 L k (by omega),<-h5,List.getElem?_take,if_pos hk]
theorem zcu.frozen (h:zcu w t g cap n L)(k:Nat):w.frozen? ⟨g,k,none⟩=false:=by
 obtain⟨cur,hb,_⟩:=h
 exact hb.frozen k
theorem zcu.set_ (h:zcu w t g cap n L)(k d:Nat)(hk:k<n):zcu (w.setCell ⟨g,k,none⟩ (.int .u8 (d:Int))) t g cap n (L.set k d):=by
 obtain⟨cur,hb,h1,h2,h3,h4,h5⟩:=h
 refine⟨_,hb.set_ k _,h1,h2,by simpa using h3,by simpa using h4,?_⟩
 rw [Array.toList_setIfInBounds,List.take_set,h5]
 unfold zaA
 rw [List.map_set]
theorem zcu.below {B:Nat}(h:zcu w t g cap n L)(hb:Below B w w')(hg:g<B):zcu w' t g cap n L:=by
 obtain⟨cur,h0,h1⟩:=h
 exact⟨cur,h0.below hb hg,h1⟩
theorem zcu.keep (h:zcu w t g cap n L)(hb:Below w.heap.size w w'):zcu w' t g cap n L:=h.below hb h.lt
theorem zcu.drew (h:zcu w t g cap n L):zcu w.drew t g cap n L:=h
theorem zcu.alloc (h:zcu w t g cap n L)(o:Obj):zcu (w.alloc o) t g cap n L:=by
 obtain⟨cur,h0,h1⟩:=h
 exact⟨cur,h0.alloc o,h1⟩
theorem zcu.far (h:zcu w t g cap n L){p:Addr}(hp:g≠p.block)(u:Value):zcu (w.setCell p u) t g cap n L:=by
 obtain⟨cur,h0,h1⟩:=h
 exact⟨cur,h0.far hp u,h1⟩
theorem zcu.reads (h:zcu w t g cap n L):zas w w.heap.size 1 (some ⟨g,0,none⟩) n (zaA .u8 L):=by
 have hl:=h.lt
 have hc:=h.cell
 have hn:=h.len
 refine⟨by rw [zaE];omega,λ_=>⟨_,rfl,hl,λj u hu=>?_⟩⟩
 have hj:j<L.length:=by
  rcases Nat.lt_or_ge j L.length with hj|hj
  ·exact hj
  ·rw [List.getElem?_eq_none (by rw [zaE];exact hj)] at hu;cases hu
 have e:(⟨g,0,none⟩:Addr).add j=⟨g,j,none⟩:=by unfold Addr.add;split<;>simp_all
 rw [e,hc j (by omega),<-zcX .u8 L j hj,hu]
theorem zcu.own (h:zcu w t g cap n L){base:Nat}(hb:base<=g):w.ownsRow base t 1 (.slice (some ⟨g,0,none⟩) n cap) n (zaA .u8 L):=by
 obtain⟨cur,h0,h1,h2,h3,h4,h5⟩:=h
 exact⟨by rw [zaE];omega,.inr ⟨g,cap,cur,rfl,hb,h0,h1,h2,by omega,by rw [Nat.mul_one];exact h5⟩⟩
theorem zcu.made (w:World)(t:TypeId)(N:Nat)(hN:N<=maxLen):zcu (w.alloc (.cells (madeCells (Value.cells (.int .u8 0)) N) t)) t w.heap.size N N (List.replicate N 0):=by
 refine⟨_,Blk.new w t _,Nat.le_refl _,hN,size_madeCells _ _,by simp,?_⟩
 show(madeCells #[Value.int .u8 0] N).toList.take N=_
 rw [toList_madeCells_one,List.take_of_length_le (by simp)]
 simp [zaA]
theorem zcu.of_own {base:Nat}{v:Value}{l:List Nat}(h:w.ownsRow base t 1 v n (zaA .u8 l))(hn:0<n):∃g cap,v=.slice (some ⟨g,0,none⟩) n cap/\base<=g/\zcu w t g cap n l:=by
 obtain⟨h1,h2⟩:=h
 rcases h2 with⟨_,h⟩|⟨g,cap,cur,e,hb,hk,a,b,c,d⟩
 ·omega
 ·refine⟨g,cap,e,hb,cur,hk,a,b,by omega,by rw [zaE] at h1;omega,?_⟩
  rw [Nat.mul_one] at d
  exact d
end
structure zhJ (w:World)(v:Value)(w':World)(v':Value):Prop where
 grown:w.grownBy w' v.ownBlock
 at_:v'.ownBlock=v.ownBlock\/∀g,v'.ownBlock=some g->w.heap.size<=g
theorem zhJ.refl (w:World)(v:Value):zhJ w v w v:=⟨World.grownBy.refl _ _,.inl rfl⟩
theorem zhJ.alloc (w:World)(v:Value)(o:Obj):zhJ w v (w.alloc o) v:=⟨World.grownBy_alloc w o _,.inl rfl⟩
theorem zhJ.trans {w w1 w2:World}{v v1 v2:Value}(h:zhJ w v w1 v1)(k:zhJ w1 v1 w2 v2):zhJ w v w2 v2:=by
 refine⟨⟨k.grown.os.trans h.grown.os,k.grown.tape.trans h.grown.tape,k.grown.output.trans h.grown.output,Nat.le_trans h.grown.size k.grown.size,λi hi hne=>?_⟩,?_⟩
 ·refine(k.grown.block i (Nat.lt_of_lt_of_le hi h.grown.size) (λe=>?_)).trans (h.grown.block i hi hne)
  rcases h.at_ with h1|h1
  ·exact hne (by rw [e,h1])
  ·have:=h1 i e.symm;omega
 ·rcases k.at_ with k1|k1
  ·rw [k1];exact h.at_
  ·exact .inr λg hg=>Nat.le_trans h.grown.size (k1 g hg)
theorem zhJ.below {w w':World}{v:Value}(hb:Below w.heap.size w w'):zhJ w v w' v:=⟨⟨hb.os,hb.tape,hb.output,hb.size,λi hi _=>hb.block i hi⟩,.inl rfl⟩
theorem Off.drew {g:Nat}{w w':World}(h:Off g w w'):Off g w w'.drew:=⟨h.os,h.tape,h.output,h.size,h.block⟩
def Aside (v:Value)(B:oA9)(m:Nat):Prop:=0<m->∀ad,B=some ad->v.ownBlock≠some ad.block
theorem Aside.words {w w':World}{v v':Value}{x m d:Nat}{B:oA9}(h:Aside v B m)(hx:zad w x B m d)(hg:zhJ w v w' v'):zad w' x B m d/\Aside v' B m:=by
 refine⟨zis hx hg.grown (λhm ad e=>(h hm ad e).symm),λhm ad e=>?_⟩
 rcases hg.at_ with h1|h1
 ·rw [h1];exact h hm ad e
 ·intro h2
  have:=h1 _ h2
  obtain⟨ad',e',hb,_⟩:=hx.1.2 hm
  rw [e] at e'
  injection e' with e'
  subst e'
  omega
theorem zhJ.blk {w w':World}{v v':Value}{base g n:Nat}{t e:TypeId}{cs:Array Value}{vs:List Value}(h:zhJ w v w' v')(hv:w.ownsRow base e 1 v n vs)(hk:Blk w g t cs)(hg:g<base):Blk w' g t cs:=
 hk.grown h.grown (λe=>by have:=(hv.lt g e.symm).1;omega)
def TextB (x y:Nat)(D:List Nat):Prop:=Dgs 10 D/\dv 10 D+10^D.length*y=x
theorem TextB.len {x y:Nat}{D:List Nat}(h:TextB x y D)(hy:y≠0):10^D.length<=x:=by
 have:=h.2
 have h1:10^D.length*1<=10^D.length*y:=Nat.mul_le_mul_left _ (by omega)
 omega
