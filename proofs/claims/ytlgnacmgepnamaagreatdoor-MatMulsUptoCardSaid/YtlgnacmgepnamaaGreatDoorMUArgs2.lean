/- What this claim leans on. -/
import Derived.Test.YtlgnacmgepnamaaGreatDoorMMeet2
import Derived.Deep.Matrix
import Derived.Deep.RegionLaw
namespace Go.Proofs.YtlgnacmgepnamaaGreatDoor
open Go Go.RowKit
open Go.ChangeShapes Go.WideShapes Go.ChangeAt Go.Deep
set_option maxHeartbeats 16000000
set_option linter.unusedVariables false
namespace UA
set_option maxHeartbeats 16000000
theorem mem_le {H:Type}{d:DataW H}{l:List (DataW H)}(h:d ∈ l):Rows.uptoBulk d<=Rows.uptoBulkAll l:=by
 induction l with
 |nil=>cases h
 |cons x r ih=>
   simp only [Rows.uptoBulkAll]
   rcases List.mem_cons.1 h with rfl|h
   ·omega
   ·have:=ih h;omega
end UA
open Go Go.RowKit
set_option maxHeartbeats 16000000
set_option linter.unusedVariables false
theorem zfX (a:Int)(g:Nat):(a / (g:Int)).natAbs<=a.natAbs:=by
 rcases Nat.eq_zero_or_pos g with rfl|hg
 ·simp
 ·exact Int.natAbs_ediv_le_natAbs a g
theorem znp (a b:Rat):(a+b).num.natAbs<=a.num.natAbs*b.den+b.num.natAbs*a.den:=by
 rw [Rat.num_add]
 refine Nat.le_trans (zfX _ _) (Nat.le_trans (Int.natAbs_add_le _ _) ?_)
 rw [Int.natAbs_mul,Int.natAbs_mul,Int.natAbs_natCast,Int.natAbs_natCast]
 exact Nat.le_refl _
theorem zmO (a b:Rat):(a+b).den<=a.den*b.den:=by rw [Rat.den_add];exact Nat.div_le_self _ _
theorem znq (a b:Rat):(a*b).num.natAbs<=a.num.natAbs*b.num.natAbs:=by
 rw [Rat.num_mul]
 refine Nat.le_trans (zfX _ _) ?_
 rw [Int.natAbs_mul]
 exact Nat.le_refl _
theorem zmP (a b:Rat):(a*b).den<=a.den*b.den:=by rw [Rat.den_mul];exact Nat.div_le_self _ _
theorem zjj (p q:Int):(Rat.divInt p q).num.natAbs<=p.natAbs:=by
 rw [Rat.num_divInt]
 refine Nat.le_trans (zfX _ _) ?_
 rw [Int.natAbs_mul]
 by_cases h:q=0
 ·simp [h]
 ·rw [Int.natAbs_sign_of_ne_zero h,Nat.one_mul];exact Nat.le_refl _
def LtQ (b:Nat)(r:Rat):Prop:=r.num.natAbs<b/\r.den<b
theorem LtQ.up {b b':Nat}{r:Rat}(h:LtQ b r)(hb:b<=b'):LtQ b' r:=⟨Nat.lt_of_lt_of_le h.1 hb,Nat.lt_of_lt_of_le h.2 hb⟩
theorem LtQ.add {b b':Nat}{r s:Rat}(h:LtQ b r)(h':LtQ b' s):LtQ (2*(b*b')) (r+s):=by
 have h1:r.num.natAbs*s.den<b*b':=Nat.mul_lt_mul'' h.1 h'.2
 have h2:s.num.natAbs*r.den<b*b':=by rw [Nat.mul_comm b b'];exact Nat.mul_lt_mul'' h'.1 h.2
 have h3:r.den*s.den<b*b':=Nat.mul_lt_mul'' h.2 h'.2
 have h4:=znp r s
 have h5:=zmO r s
 exact⟨by omega,by omega⟩
theorem LtQ.mul {b b':Nat}{r s:Rat}(h:LtQ b r)(h':LtQ b' s):LtQ (b*b') (r*s):=
 ⟨Nat.lt_of_le_of_lt (znq r s) (Nat.mul_lt_mul'' h.1 h'.1),Nat.lt_of_le_of_lt (zmP r s) (Nat.mul_lt_mul'' h.2 h'.2)⟩
theorem LtQ.neg {b:Nat}{r:Rat}(h:LtQ b r):LtQ b (-r):=⟨by rw [Rat.neg_num,Int.natAbs_neg];exact h.1,h.2⟩
theorem LtQ.made {b:Nat}{p q:Int}(hp:p.natAbs<b)(hq:q.natAbs<b)(hb:1<b):LtQ b (Rat.divInt p q):=by
 refine⟨Nat.lt_of_le_of_lt (zjj p q) hp,?_⟩
 rw [Rat.den_divInt]
 split
 ·exact hb
 ·exact Nat.lt_of_le_of_lt (Nat.div_le_self _ _) hq
theorem LtQ.whole {b:Nat}{z:Int}(hz:z.natAbs<b)(hb:1<b):LtQ b (z:Rat):=⟨by rw [Rat.num_intCast];exact hz,by rw [Rat.den_intCast];exact hb⟩
def zfU (r s:Rat):Int:=if r<s then -1 else if r=s then 0 else 1
theorem zmM (r s:Rat):zfU r s=zgQ (r.num*s.den) (s.num*r.den):=by
 unfold zfU zgQ
 by_cases h1:r<s
 ·rw [if_pos h1,if_pos ((Rat.lt_iff r s).1 h1)]
 ·rw [if_neg h1,if_neg (λh=>h1 ((Rat.lt_iff r s).2 h))]
  by_cases h2:r=s
  ·rw [if_pos h2,if_pos (Rat.eq_iff_mul_eq_mul.1 h2)]
  ·rw [if_neg h2,if_neg (λh=>h2 (Rat.eq_iff_mul_eq_mul.2 h))]
theorem cmpQ_eq (r s:Rat):zfU r s=0↔r=s:=by
 unfold zfU
 by_cases h1:r<s
 ·rw [if_pos h1]
  constructor
  ·intro h;omega
  ·intro h;exact absurd h (Rat.ne_of_lt h1)
 ·rw [if_neg h1]
  by_cases h2:r=s<;>simp [h2]
def sgnQ (r:Rat):Int:=zes r.num
theorem zlR (p q:Int)(hq:q≠0):(Rat.divInt p q).num.natAbs=p.natAbs / Nat.gcd p.natAbs q.natAbs:=by
 rw [Rat.num_divInt,Int.gcd]
 have hd:(Nat.gcd q.natAbs p.natAbs:Int)∣ q.sign*p:=Int.dvd_trans (Int.ofNat_dvd_left.2 (Nat.gcd_dvd_right ..)) (Int.dvd_mul_left ..)
 rw [Int.natAbs_ediv_of_dvd hd,Int.natAbs_mul,Int.natAbs_sign_of_ne_zero hq,Nat.one_mul,Int.natAbs_natCast,Nat.gcd_comm]
theorem zlQ (p q:Int)(hq:q≠0):(Rat.divInt p q).den=q.natAbs / Nat.gcd p.natAbs q.natAbs:=by
 rw [Rat.den_divInt,if_neg hq,Int.gcd,Nat.gcd_comm]
theorem zjH (p q:Int)(hq:q≠0):(Rat.divInt p q).num<0↔(p<0/\0<q\/0<p/\q<0):=by
 rw [Rat.num_divInt]
 have hg0:0<(q.gcd p:Int):=by
  have:0<q.gcd p:=Int.gcd_pos_of_ne_zero_left p hq
  omega
 have e:q.sign*p / (q.gcd p:Int)<0↔q.sign*p<0:=by
  constructor
  ·intro h
   refine Int.not_le.1 λh1=>?_
   have:=Int.ediv_nonneg h1 (Int.le_of_lt hg0)
   omega
  ·intro h
   exact Int.ediv_neg_of_neg_of_pos h hg0
 rw [e]
 rcases Int.lt_or_gt_of_ne hq with h|h
 ·rw [Int.sign_eq_neg_one_of_neg h];omega
 ·rw [Int.sign_eq_one_of_pos h];omega
open Go Go.RowKit
set_option maxHeartbeats 16000000
set_option linter.unusedVariables false
def DenIn (w:World)(q:Nat)(A:oA9)(n c:Nat):Prop:=∃x,(q=(if x=0 then 1 else x)/\x≠1)/\zag w x A n c
theorem DenIn.below {w w':World}{q:Nat}{A:oA9}{n c:Nat}(h:DenIn w q A n c)(hb:Below w.heap.size w w'):DenIn w' q A n c:=by
 obtain⟨x,e,h1⟩:=h
 exact⟨x,e,h1.below hb⟩
def zan (w:World)(r:Rat)(b:Bool)(A:oA9)(n c:Nat)(E:oA9)(k f:Nat):Prop:=zaF w r.num b A n c/\DenIn w r.den E k f
theorem zan.below {w w':World}{r:Rat}{b:Bool}{A:oA9}{n c:Nat}{E:oA9}{k f:Nat}(h:zan w r b A n c E k f)(hb:Below w.heap.size w w'):zan w' r b A n c E k f:=⟨h.1.below hb,h.2.below hb⟩
theorem zan.to {w:World}{r s:Rat}{b:Bool}{A:oA9}{n c:Nat}{E:oA9}{k f:Nat}(e:r=s)(h:zan w r b A n c E k f):zan w s b A n c E k f:=e▸h
def zaP (w:World)(r:Rat)(e:Ending)(w':World):Prop:=∃(b:Bool) (A:oA9) (n c:Nat) (E:oA9) (k f:Nat),e=.returned (.agg #[.bool b,.slice A n c,.slice E k f])/\zan w' r b A n c E k f/\Below w.heap.size w w'
def zdl (w:World)(r:Rat)(t:Bool)(e:Ending)(w':World):Prop:=∃(b:Bool) (A:oA9) (n c:Nat) (E:oA9) (k f:Nat),e=.returned (.tuple #[.agg #[.bool b,.slice A n c,.slice E k f],.bool t])/\zan w' r b A n c E k f/\Below w.heap.size w w'
def zaX (n k:Nat):Prop:=n<=67108864/\k<=67108864
structure RatG0 (T:World->Prop):Prop where
 mul:∀(r s:Rat) (b b':Bool) (A A':oA9) (n n' c c':Nat) (E E':oA9) (k k' f f':Nat) (w:World),T w->zan w r b A n c E k f->zan w s b' A' n' c' E' k' f'->zaX n k->zaX n' k'->Calls Tryz.prog 138 #[.agg #[.bool b,.slice A n c,.slice E k f],.agg #[.bool b',.slice A' n' c',.slice E' k' f']] w (zaP w (r*s))
structure RatG1 (T:World->Prop):Prop where
structure RatG2 (T:World->Prop):Prop where
 int:∀(z:Int) (w:World),T w-> -9223372036854775808<=z->z<=9223372036854775807->Calls Tryz.prog 26 #[.int .i64 z] w (zaP w (z:Rat))
structure RatC (T:World->Prop)(M:Nat->Prop):Prop where
 g0:M 0->RatG0 T
 g1:M 1->RatG1 T
 g2:M 2->RatG2 T
 new:∀(p q:Int) (b b':Bool) (A D:oA9) (n m c d:Nat) (w:World),T w->zaF w p b A n c->zaF w q b' D m d->n<=67108864->m<=67108864->q≠0->Calls Tryz.prog 99 #[.agg #[.bool b,.slice A n c],.agg #[.bool b',.slice D m d]] w (zdl w (Rat.divInt p q) true)
 newNo:∀(p q:Int) (b b':Bool) (A D:oA9) (n m c d:Nat) (w:World),T w->zaF w p b A n c->zaF w q b' D m d->n<=67108864->m<=67108864->q=0->Calls Tryz.prog 99 #[.agg #[.bool b,.slice A n c],.agg #[.bool b',.slice D m d]] w (zdl w 0 false)
 of:∀(p q:Int) (w:World),T w-> -9223372036854775808<=p->p<=9223372036854775807-> -9223372036854775808<=q->q<=9223372036854775807->q≠0->Calls Tryz.prog 57 #[.int .i64 p,.int .i64 q] w (zdl w (Rat.divInt p q) true)
 ofNo:∀(p q:Int) (w:World),T w-> -9223372036854775808<=p->p<=9223372036854775807->q=0->Calls Tryz.prog 57 #[.int .i64 p,.int .i64 q] w (zdl w 0 false)
 num:∀(r:Rat) (b:Bool) (A:oA9) (n c:Nat) (E:oA9) (k f:Nat) (w:World),T w->zan w r b A n c E k f->zaX n k->Calls Tryz.prog 59 #[.agg #[.bool b,.slice A n c,.slice E k f]] w (zbb w r.num)
 den:∀(r:Rat) (b:Bool) (A:oA9) (n c:Nat) (E:oA9) (k f:Nat) (w:World),T w->zan w r b A n c E k f->zaX n k->Calls Tryz.prog 61 #[.agg #[.bool b,.slice A n c,.slice E k f]] w (zey w r.den)
 sign:∀(r:Rat) (b:Bool) (A:oA9) (n c:Nat) (E:oA9) (k f:Nat) (w:World),T w->zan w r b A n c E k f->zaX n k->Calls Tryz.prog 67 #[.agg #[.bool b,.slice A n c,.slice E k f]] w (zbT w (sgnQ r))
 zero:∀(r:Rat) (b:Bool) (A:oA9) (n c:Nat) (E:oA9) (k f:Nat) (w:World),T w->zan w r b A n c E k f->zaX n k->Calls Tryz.prog 25 #[.agg #[.bool b,.slice A n c,.slice E k f]] w λe w'=>e=.returned (.bool (decide (r=0)))/\Below w.heap.size w w'
 isInt:∀(r:Rat) (b:Bool) (A:oA9) (n c:Nat) (E:oA9) (k f:Nat) (w:World),T w->zan w r b A n c E k f->zaX n k->Calls Tryz.prog 97 #[.agg #[.bool b,.slice A n c,.slice E k f]] w λe w'=>e=.returned (.bool (decide (r.den=1)))/\Below w.heap.size w w'
 bits:∀(r:Rat) (b:Bool) (A:oA9) (n c:Nat) (E:oA9) (k f:Nat) (w:World),T w->zan w r b A n c E k f->zaX n k->Calls Tryz.prog 83 #[.agg #[.bool b,.slice A n c,.slice E k f]] w (zbT w ((bitLen r.num.natAbs+bitLen r.den:Nat):Int))
 add:∀(r s:Rat) (b b':Bool) (A A':oA9) (n n' c c':Nat) (E E':oA9) (k k' f f':Nat) (w:World),T w->zan w r b A n c E k f->zan w s b' A' n' c' E' k' f'->zaX n k->zaX n' k'->Calls Tryz.prog 107 #[.agg #[.bool b,.slice A n c,.slice E k f],.agg #[.bool b',.slice A' n' c',.slice E' k' f']] w (zaP w (r+s))
 cmp:∀(r s:Rat) (b b':Bool) (A A':oA9) (n n' c c':Nat) (E E':oA9) (k k' f f':Nat) (w:World),T w->zan w r b A n c E k f->zan w s b' A' n' c' E' k' f'->zaX n k->zaX n' k'->Calls Tryz.prog 121 #[.agg #[.bool b,.slice A n c,.slice E k f],.agg #[.bool b',.slice A' n' c',.slice E' k' f']] w (zbT w (zfU r s))
 same:∀(r s:Rat) (b b':Bool) (A A':oA9) (n n' c c':Nat) (E E':oA9) (k k' f f':Nat) (w:World),T w->zan w r b A n c E k f->zan w s b' A' n' c' E' k' f'->zaX n k->zaX n' k'->Calls Tryz.prog 43 #[.agg #[.bool b,.slice A n c,.slice E k f],.agg #[.bool b',.slice A' n' c',.slice E' k' f']] w λe w'=>e=.returned (.bool (decide (r=s)))/\Below w.heap.size w w'
open Go Go.RowKit
set_option maxHeartbeats 16000000
set_option linter.unusedVariables false
def zde (g:Nat)(w w':World):Prop:=w'.heap.size=w.heap.size/\∀p:Addr,p.block≠g->w'.cell? p=w.cell? p
theorem zde.refl (g:Nat)(w:World):zde g w w:=⟨rfl,λ_ _=>rfl⟩
theorem zde.set_ {g:Nat}{w w':World}(h:zde g w w')(j:Nat)(v:Value):zde g w (w'.setCell ⟨g,j,none⟩ v):=
 ⟨by rw [<-h.1];simp,λp hp=>(World.cell?_setCell_other w' ⟨g,j,none⟩ p v (λe=>hp (by first|rw [e]|rw [<-e]))).trans (h.2 p hp)⟩
theorem zbP (w:World)(g:Nat)(v0:Value):zde g w (w.setCell ⟨g,0,none⟩ v0):=(zde.refl g w).set_ 0 v0
theorem zdA (w:World)(g:Nat)(v0 v1:Value):zde g w ((w.setCell ⟨g,0,none⟩ v0).setCell ⟨g,1,none⟩ v1):=(zbP w g v0).set_ 1 v1
theorem off3 (w:World)(g:Nat)(v0 v1 v2:Value):zde g w (((w.setCell ⟨g,0,none⟩ v0).setCell ⟨g,1,none⟩ v1).setCell ⟨g,2,none⟩ v2):=(zdA w g v0 v1).set_ 2 v2
def NoU (cs:Array Value):Prop:=∀v ∈ cs.toList,∀k z,v≠.int k z
theorem NoU.s1 (q:oA9)(r s:Nat):NoU #[.slice q r s]:=by intro v hv k z e;simp at hv;subst hv;cases e
theorem NoU.s2 (p:Bool)(q:oA9)(r s:Nat):NoU #[.bool p,.slice q r s]:=by intro v hv k z e;simp at hv;rcases hv with rfl|rfl<;>cases e
theorem NoU.s3 (p:Bool)(q:oA9)(r s:Nat)(q2:oA9)(r2 s2:Nat):NoU #[.bool p,.slice q r s,.slice q2 r2 s2]:=by intro v hv k z e;simp at hv;rcases hv with rfl|rfl|rfl<;>cases e
theorem zcl:NoU #[.slice none 0 0]:=NoU.s1 _ _ _
theorem nou2:NoU #[.bool false,.slice none 0 0]:=NoU.s2 _ _ _ _
theorem zjS {w:World}{A:oA9}{n g:Nat}{k:IntKind}{l:List Nat}{t:TypeId}{cs:Array Value}(h:zau w w.heap.size 1 A n (zaw k l))(hk:Blk w g t cs)(hcs:NoU cs):0<n->∀ad,A=some ad->ad.block≠g:=λhn ad e hg=>by
 have hl:=h.len_
 obtain⟨ad',e',_,hc⟩:=h.2 hn
 rw [e] at e'
 injection e' with e'
 subst e'
 have h0:=hc 0 (.int k (l.getD 0 0:Nat)) (zcu k _ 0 (by omega))
 have e0:ad.add 0=ad:=by unfold Addr.add;rw [if_pos rfl]
 rw [e0] at h0
 obtain⟨bk,off,pr⟩:=ad
 simp only at hg
 subst hg
 unfold Blk at hk
 cases pr with
 |none=>
   rw [show w.cell? ⟨bk,off,none⟩=cs[off]? from cell_of_row w bk off _ t (0,0) hk,<-Array.getElem?_toList] at h0
   exact hcs _ (List.mem_of_getElem? h0) _ _ rfl
 |some q=>simp [World.cell?,hk] at h0
theorem zjT {w w':World}{A:oA9}{n g:Nat}{k:IntKind}{l:List Nat}{t:TypeId}{cs:Array Value}(h:zau w w.heap.size 1 A n (zaw k l))(hk:Blk w g t cs)(hcs:NoU cs)(ho:zde g w w'):zau w' w'.heap.size 1 A n (zaw k l):=by
 have hne:=zjS h hk hcs
 refine⟨h.1,λhn=>?_⟩
 obtain⟨ad,e,hb,hc⟩:=h.2 hn
 refine⟨ad,e,by rw [ho.1];exact hb,λj v hv=>?_⟩
 rw [ho.2 (ad.add j) (by rw [zap];exact hne hn ad e)]
 exact hc j v hv
theorem zax {w w':World}{x:Nat}{A:oA9}{n c g:Nat}{t:TypeId}{cs:Array Value}(h:zag w x A n c)(hk:Blk w g t cs)(hcs:NoU cs)(ho:zde g w w'):zag w' x A n c:=⟨zjT h.1 hk hcs ho,h.2⟩
theorem zgw {w w':World}{z:Int}{b:Bool}{A:oA9}{n c g:Nat}{t:TypeId}{cs:Array Value}(h:zaF w z b A n c)(hk:Blk w g t cs)(hcs:NoU cs)(ho:zde g w w'):zaF w' z b A n c:=⟨h.1,zax h.2 hk hcs ho⟩
theorem zib {w w':World}{r:Rat}{b:Bool}{A:oA9}{n c:Nat}{E:oA9}{k f:Nat}{g:Nat}{t:TypeId}{cs:Array Value}(h:zan w r b A n c E k f)(hk:Blk w g t cs)(hcs:NoU cs)(ho:zde g w w'):zan w' r b A n c E k f:=by
 refine⟨zgw h.1 hk hcs ho,?_⟩
 obtain⟨x,e,hx⟩:=h.2
 exact⟨x,e,zax hx hk hcs ho⟩
def SzQ (K:Nat)(r:Rat):Prop:=LtQ (18446744073709551616^K) r
theorem SzQ.up {K K':Nat}{r:Rat}(h:SzQ K r)(hk:K<=K'):SzQ K' r:=LtQ.up h (Nat.pow_le_pow_right (by decide) hk)
theorem zns (K K':Nat):2*(18446744073709551616^K*18446744073709551616^K')<=18446744073709551616^(K+K'+1):=by
 rw [Nat.pow_succ,Nat.pow_add,Nat.mul_comm]
 exact Nat.mul_le_mul_left _ (by decide)
theorem SzQ.add {K K':Nat}{r s:Rat}(h:SzQ K r)(h':SzQ K' s):SzQ (K+K'+1) (r+s):=LtQ.up (LtQ.add h h') (zns K K')
theorem SzQ.mul {K K':Nat}{r s:Rat}(h:SzQ K r)(h':SzQ K' s):SzQ (K+K') (r*s):=LtQ.up (LtQ.mul h h') (by rw [Nat.pow_add];exact Nat.le_refl _)
theorem SzQ.neg {K:Nat}{r:Rat}(h:SzQ K r):SzQ K (-r):=LtQ.neg h
theorem SzQ.abs {K:Nat}{r:Rat}(h:SzQ K r):SzQ K r.abs:=by
 unfold Rat.abs
 split
 ·exact h
 ·exact h.neg
theorem SzQ.num {K:Nat}{r:Rat}(h:SzQ K r):Sz K r.num.natAbs:=h.1
theorem SzQ.den {K:Nat}{r:Rat}(h:SzQ K r):Sz K r.den:=h.2
theorem zcK {K:Nat}(h:0<K):1<18446744073709551616^K:=Nat.one_lt_pow (by omega) (by decide)
theorem SzQ.whole {K:Nat}{z:Int}(h:Sz K z.natAbs)(hK:0<K):SzQ K (z:Rat):=LtQ.whole h (zcK hK)
theorem SzQ.made {K:Nat}{p q:Int}(h:Sz K p.natAbs)(h':Sz K q.natAbs)(hK:0<K):SzQ K (Rat.divInt p q):=LtQ.made h h' (zcK hK)
theorem SzQ.zero:SzQ 1 (0:Rat):=⟨by decide,by decide⟩
theorem SzQ.fit {K:Nat}{r:Rat}(h:SzQ K r){w:World}{b:Bool}{A:oA9}{n c:Nat}{E:oA9}{k f:Nat}(hr:zan w r b A n c E k f)(hK:K<=67108864):zaX n k:=by
 refine⟨Nat.le_trans (h.num.words hr.1.2) (Nat.le_trans hK (by decide)),?_⟩
 obtain⟨x,⟨e,_⟩,hx⟩:=hr.2
 have hd:Sz K x:=h.den.of_le (by rw [e];split<;>omega)
 exact Nat.le_trans (hd.words hx) (Nat.le_trans hK (by decide))
open Go Go.RowKit
set_option maxHeartbeats 16000000
set_option linter.unusedVariables false
theorem zbJ {P:Program}{f:FuncId}{args:Array Value}{w:World}{z v:Int}(e:z=v)(h:Calls P f args w (zbT w z)):Calls P f args w λe w'=>e=.returned (.int .i64 v)/\Below w.heap.size w w':=by
 subst e;exact h
theorem zaA {P:Program}{f:FuncId}{args:Array Value}{w:World}{b t:Bool}(e:b=t)(h:Calls P f args w λe w'=>e=.returned (.bool b)/\Below w.heap.size w w'):Calls P f args w λe w'=>e=.returned (.bool t)/\Below w.heap.size w w':=by
 subst e;exact h
theorem inew_pos {T:World->Prop}(IC:IntC T)(x:Nat)(A:oA9)(n c:Nat)(w:World)(hT:T w)(h:zag w x A n c)(hn:n<=268435456):Calls Tryz.prog 129 #[.bool false,.agg #[.slice A n c]] w (zbb w (x:Int)):=
 IC.new false x A n c w hT h hn
open Go Go.RowKit
set_option maxHeartbeats 16000000
theorem under_N:Tryz.prog.underlying 90=some (.slice 3):=by kernel_rfl
open Go Go.RowKit
set_option maxHeartbeats 16000000
set_option maxRecDepth 100000
set_option linter.unusedVariables false
set_option linter.unusedSimpArgs false
def Aside (v:Value)(B:oA9)(m:Nat):Prop:=0<m->∀ad,B=some ad->v.ownBlock≠some ad.block
theorem Aside.words {w w':World}{v v':Value}{x m d:Nat}{B:oA9}(h:Aside v B m)(hx:zag w x B m d)(hg:zgN w v w' v'):zag w' x B m d/\Aside v' B m:=by
 refine⟨zhu hx hg.grown (λhm ad e=>(h hm ad e).symm),λhm ad e=>?_⟩
 rcases hg.at_ with h1|h1
 ·rw [h1];exact h hm ad e
 ·intro h2
  have:=h1 _ h2
  obtain⟨ad',e',hb,_⟩:=hx.1.2 hm
  rw [e] at e'
  injection e' with e'
  subst e'
  omega
theorem zgN.blk {w w':World}{v v':Value}{base g n:Nat}{t e:TypeId}{cs:Array Value}{vs:List Value}(h:zgN w v w' v')(hv:w.ownsRow base e 1 v n vs)(hk:Blk w g t cs)(hg:g<base):Blk w' g t cs:=
 hk.grown h.grown (λe=>by have:=(hv.lt g e.symm).1;omega)
def zgp (x y:Nat)(D:List Nat):Prop:=Dgs 10 D/\dv 10 D+10^D.length*y=x
theorem zgp.start (x:Nat):zgp x x []:=⟨λd hd=>by simp at hd,by simp [dv]⟩
theorem zgp.step {x y:Nat}{D:List Nat}(h:zgp x y D):zgp x (y / 10000000000000000000) (D++lowD 19 (y%10000000000000000000)):=by
 refine⟨h.1.append (lowD_dgs _ _),?_⟩
 rw [zbn,List.length_append,zlP,zoj,Nat.pow_add,show(10:Nat)^19=10000000000000000000 from rfl,Nat.mod_mod,Nat.mul_assoc,Nat.add_assoc,<-Nat.mul_add,Nat.mod_add_div]
 exact h.2
theorem zgp.done {x:Nat}{D:List Nat}(h:zgp x 0 D):dv 10 D=x:=by have:=h.2;simpa using this
theorem zgp.len {x y:Nat}{D:List Nat}(h:zgp x y D)(hy:y≠0):10^D.length<=x:=by
 have:=h.2
 have h1:10^D.length*1<=10^D.length*y:=Nat.mul_le_mul_left _ (by omega)
 omega
open Go Go.RowKit
set_option maxHeartbeats 16000000
set_option maxRecDepth 100000
set_option linter.unusedVariables false
set_option linter.unusedSimpArgs false
open Go Go.RowKit
set_option maxHeartbeats 16000000
set_option maxRecDepth 100000
set_option linter.unusedVariables false
set_option linter.unusedSimpArgs false
theorem zdQ {w:World}{g:Nat}(h:Blk w g 3 #[.int .i64 1]):zak w 1 (some ⟨g,0,none⟩) 1 1:=by
 have e:dg 65536 1=[1]:=by
  rw [zea (by decide) (by decide)]
  rfl
 refine⟨?_,Nat.le_refl _,by omega⟩
 rw [e]
 refine⟨rfl,λ_=>⟨_,rfl,h.lt,λj u hu=>?_⟩⟩
 match j,hu with
 |0,hu=>simp [zaw] at hu;subst hu;exact h.cell 0
