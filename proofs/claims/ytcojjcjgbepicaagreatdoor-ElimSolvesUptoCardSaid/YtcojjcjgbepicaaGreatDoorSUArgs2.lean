/- What this claim leans on. -/
import Derived.Test.YtcojjcjgbepicaaGreatDoorSD8Math
import Derived.Deep.Matrix
namespace Go.Proofs.YtcojjcjgbepicaaGreatDoor
open Go Go.RowKit
open Go.ChangeShapes Go.WideShapes Go.ChangeAt Go.Deep
set_option maxHeartbeats 16000000
set_option linter.unusedVariables false
namespace UA
set_option maxHeartbeats 16000000
theorem mem_le {H:Type}{d:DataW H}{l:List (DataW H)}(h:d ∈ l):Rows.uptoBulk d<=Rows.uptoBulkAll l:=by
 induction l with
 |nil=>cases h
 |cons x r ih=>
   simp only [Rows.uptoBulkAll]
   rcases List.mem_cons.1 h with rfl|h
   ·omega
   ·have:=ih h;omega
end UA
open Go Go.RowKit
set_option maxHeartbeats 16000000
set_option linter.unusedVariables false
def zcG (w:World)(q r:Nat)(b:Bool)(e:Ending)(w':World):Prop:=∃(A:oA9) (n c:Nat) (B:oA9) (m d:Nat),e=.returned (.tuple #[.agg #[.slice A n c],.agg #[.slice B m d],.bool b])/\zad w' q A n c/\zad w' r B m d/\Below w.heap.size w w'
def zeC (w:World)(x:Nat)(b:Bool)(e:Ending)(w':World):Prop:=∃(A:oA9) (n c:Nat),e=.returned (.tuple #[.agg #[.slice A n c],.bool b])/\zad w' x A n c/\Below w.heap.size w w'
def zgt (w:World)(q x:Nat)(b:Bool)(e:Ending)(w':World):Prop:=∃(A:oA9) (n c:Nat),e=.returned (.tuple #[.agg #[.slice A n c],.int .u64 (x:Int),.bool b])/\zad w' q A n c/\Below w.heap.size w w'
structure QuotC:Prop where
 divMod:∀(x y:Nat) (A D:oA9) (n m c d:Nat) (w:World),zad w x A n c->zad w y D m d->n<=1073741824->m<=1073741824->y≠0->Calls Tryz.prog 199 #[.agg #[.slice A n c],.agg #[.slice D m d]] w (zcG w (x / y) (x%y) true)
 divModNo:∀(x y:Nat) (A D:oA9) (n m c d:Nat) (w:World),zad w x A n c->zad w y D m d->n<=1073741824->m<=1073741824->y=0->Calls Tryz.prog 199 #[.agg #[.slice A n c],.agg #[.slice D m d]] w (zcG w 0 0 false)
 div:∀(x y:Nat) (A D:oA9) (n m c d:Nat) (w:World),zad w x A n c->zad w y D m d->n<=1073741824->m<=1073741824->y≠0->Calls Tryz.prog 171 #[.agg #[.slice A n c],.agg #[.slice D m d]] w (zeC w (x / y) true)
 mod:∀(x y:Nat) (A D:oA9) (n m c d:Nat) (w:World),zad w x A n c->zad w y D m d->n<=1073741824->m<=1073741824->y≠0->Calls Tryz.prog 210 #[.agg #[.slice A n c],.agg #[.slice D m d]] w (zeC w (x%y) true)
 byWord:∀(x a:Nat) (A:oA9) (n c:Nat) (w:World),zad w x A n c->n<=1073741824->a<18446744073709551616->a≠0->Calls Tryz.prog 214 #[.agg #[.slice A n c],.int .u64 a] w (zgt w (x / a) (x%a) true)
 byWordNo:∀(x:Nat) (A:oA9) (n c:Nat) (w:World),zad w x A n c->n<=1073741824->Calls Tryz.prog 214 #[.agg #[.slice A n c],.int .u64 0] w (zgt w 0 0 false)
open Go Go.RowKit
set_option maxHeartbeats 16000000
set_option linter.unusedVariables false
def zba (g:Nat)(w w':World):Prop:=w'.heap.size=w.heap.size/\∀p:Addr,p.block≠g->w'.cell? p=w.cell? p
theorem zba.refl (g:Nat)(w:World):zba g w w:=⟨rfl,λ_ _=>rfl⟩
theorem zba.set_ {g:Nat}{w w':World}(h:zba g w w')(j:Nat)(v:Value):zba g w (w'.setCell ⟨g,j,none⟩ v):=
 ⟨by rw [<-h.1];simp,λp hp=>(World.cell?_setCell_other w' ⟨g,j,none⟩ p v (λe=>hp (by first|rw [e]|rw [<-e]))).trans (h.2 p hp)⟩
theorem zbS (w:World)(g:Nat)(v0:Value):zba g w (w.setCell ⟨g,0,none⟩ v0):=(zba.refl g w).set_ 0 v0
theorem ziM (w:World)(g:Nat)(v0 v1:Value):zba g w ((w.setCell ⟨g,0,none⟩ v0).setCell ⟨g,1,none⟩ v1):=(zbS w g v0).set_ 1 v1
theorem zdV (w:World)(g:Nat)(v0 v1 v2:Value):zba g w (((w.setCell ⟨g,0,none⟩ v0).setCell ⟨g,1,none⟩ v1).setCell ⟨g,2,none⟩ v2):=(ziM w g v0 v1).set_ 2 v2
def NoU (cs:Array Value):Prop:=∀v ∈ cs.toList,∀k z,v≠.int k z
theorem NoU.s1 (q:oA9)(r s:Nat):NoU #[.slice q r s]:=by intro v hv k z e;simp at hv;subst hv;cases e
theorem NoU.s2 (p:Bool)(q:oA9)(r s:Nat):NoU #[.bool p,.slice q r s]:=by intro v hv k z e;simp at hv;rcases hv with rfl|rfl<;>cases e
theorem NoU.s3 (p:Bool)(q:oA9)(r s:Nat)(q2:oA9)(r2 s2:Nat):NoU #[.bool p,.slice q r s,.slice q2 r2 s2]:=by intro v hv k z e;simp at hv;rcases hv with rfl|rfl|rfl<;>cases e
theorem zcj:NoU #[.slice none 0 0]:=NoU.s1 _ _ _
theorem nou2:NoU #[.bool false,.slice none 0 0]:=NoU.s2 _ _ _ _
theorem zjZ {w:World}{A:oA9}{n g:Nat}{k:IntKind}{l:List Nat}{t:TypeId}{cs:Array Value}(h:zas w w.heap.size 1 A n (zax k l))(hk:Blk w g t cs)(hcs:NoU cs):0<n->∀ad,A=some ad->ad.block≠g:=λhn ad e hg=>by
 have hl:=h.len_
 obtain⟨ad',e',_,hc⟩:=h.2 hn
 rw [e] at e'
 injection e' with e'
 subst e'
 have h0:=hc 0 (.int k (l.getD 0 0:Nat)) (zcQ k _ 0 (by omega))
 have e0:ad.add 0=ad:=by unfold Addr.add;rw [if_pos rfl]
 rw [e0] at h0
 obtain⟨bk,off,pr⟩:=ad
 simp only at hg
 subst hg
 unfold Blk at hk
 cases pr with
 |none=>
   rw [show w.cell? ⟨bk,off,none⟩=cs[off]? from cell_of_row w bk off _ t (0,0) hk,<-Array.getElem?_toList] at h0
   exact hcs _ (List.mem_of_getElem? h0) _ _ rfl
 |some q=>simp [World.cell?,hk] at h0
theorem zps {w w':World}{A:oA9}{n g:Nat}{k:IntKind}{l:List Nat}{t:TypeId}{cs:Array Value}(h:zas w w.heap.size 1 A n (zax k l))(hk:Blk w g t cs)(hcs:NoU cs)(ho:zba g w w'):zas w' w'.heap.size 1 A n (zax k l):=by
 have hne:=zjZ h hk hcs
 refine⟨h.1,λhn=>?_⟩
 obtain⟨ad,e,hb,hc⟩:=h.2 hn
 refine⟨ad,e,by rw [ho.1];exact hb,λj v hv=>?_⟩
 rw [ho.2 (ad.add j) (by rw [zao];exact hne hn ad e)]
 exact hc j v hv
theorem zat {w w':World}{x:Nat}{A:oA9}{n c g:Nat}{t:TypeId}{cs:Array Value}(h:zad w x A n c)(hk:Blk w g t cs)(hcs:NoU cs)(ho:zba g w w'):zad w' x A n c:=⟨zps h.1 hk hcs ho,h.2⟩
theorem zgF {w w':World}{z:Int}{b:Bool}{A:oA9}{n c g:Nat}{t:TypeId}{cs:Array Value}(h:zaB w z b A n c)(hk:Blk w g t cs)(hcs:NoU cs)(ho:zba g w w'):zaB w' z b A n c:=⟨h.1,zat h.2 hk hcs ho⟩
theorem zbw {w w':World}{r:Rat}{b:Bool}{A:oA9}{n c:Nat}{E:oA9}{k f:Nat}{g:Nat}{t:TypeId}{cs:Array Value}(h:zah w r b A n c E k f)(hk:Blk w g t cs)(hcs:NoU cs)(ho:zba g w w'):zah w' r b A n c E k f:=by
 refine⟨zgF h.1 hk hcs ho,?_⟩
 obtain⟨x,e,hx⟩:=h.2
 exact⟨x,e,zat hx hk hcs ho⟩
def SzQ (K:Nat)(r:Rat):Prop:=LtQ (18446744073709551616^K) r
theorem SzQ.up {K K':Nat}{r:Rat}(h:SzQ K r)(hk:K<=K'):SzQ K' r:=LtQ.up h (Nat.pow_le_pow_right (by decide) hk)
theorem ziP (K K':Nat):2*(18446744073709551616^K*18446744073709551616^K')<=18446744073709551616^(K+K'+1):=by
 rw [Nat.pow_succ,Nat.pow_add,Nat.mul_comm]
 exact Nat.mul_le_mul_left _ (by decide)
theorem SzQ.add {K K':Nat}{r s:Rat}(h:SzQ K r)(h':SzQ K' s):SzQ (K+K'+1) (r+s):=LtQ.up (LtQ.add h h') (ziP K K')
theorem SzQ.sub {K K':Nat}{r s:Rat}(h:SzQ K r)(h':SzQ K' s):SzQ (K+K'+1) (r - s):=LtQ.up (LtQ.sub h h') (ziP K K')
theorem SzQ.mul {K K':Nat}{r s:Rat}(h:SzQ K r)(h':SzQ K' s):SzQ (K+K') (r*s):=LtQ.up (LtQ.mul h h') (by rw [Nat.pow_add];exact Nat.le_refl _)
theorem SzQ.neg {K:Nat}{r:Rat}(h:SzQ K r):SzQ K (-r):=LtQ.neg h
theorem SzQ.inv {K:Nat}{r:Rat}(h:SzQ K r):SzQ K r⁻¹:=LtQ.inv h
theorem SzQ.abs {K:Nat}{r:Rat}(h:SzQ K r):SzQ K r.abs:=by
 unfold Rat.abs
 split
 ·exact h
 ·exact h.neg
theorem SzQ.num {K:Nat}{r:Rat}(h:SzQ K r):Sz K r.num.natAbs:=h.1
theorem SzQ.den {K:Nat}{r:Rat}(h:SzQ K r):Sz K r.den:=h.2
theorem zeP {K:Nat}(h:0<K):1<18446744073709551616^K:=Nat.one_lt_pow (by omega) (by decide)
theorem SzQ.whole {K:Nat}{z:Int}(h:Sz K z.natAbs)(hK:0<K):SzQ K (z:Rat):=LtQ.whole h (zeP hK)
theorem SzQ.made {K:Nat}{p q:Int}(h:Sz K p.natAbs)(h':Sz K q.natAbs)(hK:0<K):SzQ K (Rat.divInt p q):=LtQ.made h h' (zeP hK)
theorem SzQ.zero:SzQ 1 (0:Rat):=⟨by decide,by decide⟩
theorem SzQ.fit {K:Nat}{r:Rat}(h:SzQ K r){w:World}{b:Bool}{A:oA9}{n c:Nat}{E:oA9}{k f:Nat}(hr:zah w r b A n c E k f)(hK:K<=67108864):zaO n k:=by
 refine⟨Nat.le_trans (h.num.words hr.1.2) (Nat.le_trans hK (by decide)),?_⟩
 obtain⟨x,⟨e,_⟩,hx⟩:=hr.2
 have hd:Sz K x:=h.den.of_le (by rw [e];split<;>omega)
 exact Nat.le_trans (hd.words hx) (Nat.le_trans hK (by decide))
open Go Go.RowKit
set_option maxHeartbeats 16000000
set_option linter.unusedVariables false
def qOf (p q:Int):Rat:=Rat.divInt p (if q=0 then 1 else q)
theorem qOf_zero (p:Int):qOf p 0=(p:Rat):=by
 unfold qOf
 rw [if_pos rfl]
 exact Rat.ext (by rw [Rat.num_divInt,Rat.num_intCast];simp) (by rw [Rat.den_divInt,Rat.den_intCast];simp)
theorem qOf_ne {p q:Int}(h:q≠0):qOf p q=Rat.divInt p q:=by unfold qOf;rw [if_neg h]
theorem zgS {z:Int}(h1: -9223372036854775808<=z)(h2:z<=9223372036854775807):Sz 1 z.natAbs:=by
 show z.natAbs<18446744073709551616^1
 rw [Nat.pow_one]
 omega
theorem qOf_sz {p q:Int}(hp1: -9223372036854775808<=p)(hp2:p<=9223372036854775807)(hq1: -9223372036854775808<=q)(hq2:q<=9223372036854775807):SzQ 1 (qOf p q):=by
 unfold qOf
 refine SzQ.made (zgS hp1 hp2) ?_ (by decide)
 split
 ·exact zgS (by decide) (by decide)
 ·exact zgS hq1 hq2
def zdB (rs:List Rat):Rat:=rs.foldl (λa b=>a+b) 0
theorem zoP (rs:List Rat)(a:Rat):rs.foldl (λa b=>a+b) a=a+zdB rs:=by
 unfold zdB
 induction rs generalizing a with
 |nil=>exact(Rat.add_zero a).symm
 |cons r t ih=>
   rw [List.foldl_cons,List.foldl_cons,ih (a+r),ih (0+r),Rat.zero_add,Rat.add_assoc]
theorem zkd:zdB []=0:=rfl
theorem zgo (r:Rat)(rs:List Rat):zdB (r::rs)=r+zdB rs:=by
 show(r::rs).foldl (λa b=>a+b) 0=_
 rw [List.foldl_cons,zoP,Rat.zero_add]
def dotQ (xs ys:List Rat):Rat:=zdB (List.zipWith (λa b=>a*b) xs ys)
def addL (xs ys:List Rat):List Rat:=List.zipWith (λa b=>a+b) xs ys
def subL (xs ys:List Rat):List Rat:=List.zipWith (λa b=>a - b) xs ys
def mulL (xs ys:List Rat):List Rat:=List.zipWith (λa b=>a*b) xs ys
def zht (xs:List Rat)(r:Rat)(ys:List Rat):List Rat:=List.zipWith (λa b=>a+r*b) xs ys
def zaH (r:Rat)(xs:List Rat):List Rat:=xs.map λx=>r*x
theorem zow {xs ys:List Rat}{f:Rat->Rat->Rat}{n:Nat}(h:xs.length=n)(k:ys.length=n):(List.zipWith f xs ys).length=n:=by rw [List.length_zipWith,h,k,Nat.min_self]
def zeK:List Rat->List Rat->Int
 |[],[]=>0
 |[],_::_=> -1
 |_::_,[]=>1
 |x::xs,y::ys=>if x=y then zeK xs ys else zge x y
theorem cmpQ_ne {x y:Rat}(h:x≠y):zge x y≠0:=λe=>h ((cmpQ_eq x y).1 e)
theorem zkv:∀(xs ys:List Rat),zeK xs ys=0↔xs=ys
 |[],[]=>by simp [zeK]
 |[],_::_=>by simp [zeK]
 |_::_,[]=>by simp [zeK]
 |x::xs,y::ys=>by
   unfold zeK
   by_cases h:x=y
   ·rw [if_pos h,zkv xs ys,h];simp
   ·rw [if_neg h]
    constructor
    ·intro e;exact absurd e (cmpQ_ne h)
    ·intro e;injection e with e1 e2;exact absurd e1 h
theorem zoE {x y:Rat}{xs ys:List Rat}(h:x=y):zeK (x::xs) (y::ys)=zeK xs ys:=by
 show(if x=y then zeK xs ys else zge x y)=_
 exact if_pos h
theorem zmN {x y:Rat}{xs ys:List Rat}(h:x≠y):zeK (x::xs) (y::ys)=zge x y:=by
 show(if x=y then zeK xs ys else zge x y)=_
 exact if_neg h
theorem zdE {xs:List Rat}{k:Nat}(h:k<xs.length):xs.drop k=xs.getD k 0::xs.drop (k+1):=by
 rw [List.drop_eq_getElem_cons h,List.getD_eq_getElem?_getD,List.getElem?_eq_getElem h];rfl
theorem zin {xs ys:List Rat}{k:Nat}(hx:k<xs.length)(hy:k<ys.length)(h:xs.getD k 0=ys.getD k 0):zeK (xs.drop k) (ys.drop k)=zeK (xs.drop (k+1)) (ys.drop (k+1)):=by
 rw [zdE hx,zdE hy,zoE h]
theorem zhL {xs ys:List Rat}{k:Nat}(hx:k<xs.length)(hy:k<ys.length)(h:xs.getD k 0≠ys.getD k 0):zeK (xs.drop k) (ys.drop k)=zge (xs.getD k 0) (ys.getD k 0):=by
 rw [zdE hx,zdE hy,zmN h]
def cmpN (a b:Nat):Int:=if a<b then -1 else if a=b then 0 else 1
theorem cmpV_end {xs ys:List Rat}{k:Nat}(hk:k=min xs.length ys.length):zeK (xs.drop k) (ys.drop k)=cmpN xs.length ys.length:=by
 unfold cmpN
 by_cases h1:xs.length<ys.length
 ·rw [if_pos h1,List.drop_of_length_le (by omega),zdE (xs:=ys) (by omega)];rfl
 ·rw [if_neg h1]
  by_cases h2:xs.length=ys.length
  ·rw [if_pos h2,List.drop_of_length_le (by omega),List.drop_of_length_le (by omega)];rfl
  ·rw [if_neg h2,List.drop_of_length_le (l:=ys) (by omega),zdE (xs:=xs) (by omega)];rfl
def zaq (K:Nat)(xs:List Rat):Prop:=∀x ∈ xs,SzQ K x
theorem zaq.at_ {K:Nat}{xs:List Rat}(h:zaq K xs){k:Nat}(hk:k<xs.length):SzQ K (xs.getD k 0):=by
 rw [List.getD_eq_getElem?_getD,List.getElem?_eq_getElem hk]
 exact h _ (List.getElem_mem hk)
theorem zaq.up {K K':Nat}{xs:List Rat}(h:zaq K xs)(e:K<=K'):zaq K' xs:=λx hx=>(h x hx).up e
theorem zaq.zip {K K' L:Nat}{f:Rat->Rat->Rat}(hf:∀x y,SzQ K x->SzQ K' y->SzQ L (f x y)):∀{xs ys:List Rat},zaq K xs->zaq K' ys->zaq L (List.zipWith f xs ys)
 |[],_,_,_=>λx hx=>by cases hx
 |_::_,[],_,_=>λx hx=>by cases hx
 |x::xs,y::ys,h,k=>λz hz=>by
   rw [List.zipWith_cons_cons] at hz
   rcases List.mem_cons.1 hz with rfl|hz
   ·exact hf x y (h x List.mem_cons_self) (k y List.mem_cons_self)
   ·exact zaq.zip hf (λa ha=>h a (List.mem_cons_of_mem _ ha)) (λa ha=>k a (List.mem_cons_of_mem _ ha)) z hz
theorem zaq.add {K K':Nat}{xs ys:List Rat}(h:zaq K xs)(k:zaq K' ys):zaq (K+K'+1) (addL xs ys):=zaq.zip (λ_ _=>SzQ.add) h k
theorem zaq.sub {K K':Nat}{xs ys:List Rat}(h:zaq K xs)(k:zaq K' ys):zaq (K+K'+1) (subL xs ys):=zaq.zip (λ_ _=>SzQ.sub) h k
theorem zaq.mul {K K':Nat}{xs ys:List Rat}(h:zaq K xs)(k:zaq K' ys):zaq (K+K') (mulL xs ys):=zaq.zip (λ_ _=>SzQ.mul) h k
theorem zaq.addT {K K' L:Nat}{r:Rat}{xs ys:List Rat}(h:zaq K xs)(hr:SzQ L r)(k:zaq K' ys):zaq (K+(L+K')+1) (zht xs r ys):=zaq.zip (λ_ _ a b=>a.add (hr.mul b)) h k
theorem zaq.scale {K L:Nat}{r:Rat}{xs:List Rat}(hr:SzQ L r)(h:zaq K xs):zaq (L+K) (zaH r xs):=λx hx=>by
 obtain⟨y,hy,rfl⟩:=List.mem_map.1 hx
 exact hr.mul (h y hy)
theorem znL {K:Nat}:∀{xs:List Rat},zaq K xs->SzQ (1+xs.length*(K+1)) (zdB xs)
 |[],_=>by rw [List.length_nil,Nat.zero_mul];exact SzQ.zero
 |x::xs,h=>by
   rw [zgo]
   exact((h x List.mem_cons_self).add (znL λa ha=>h a (List.mem_cons_of_mem _ ha))).up (by rw [List.length_cons,Nat.succ_mul];omega)
theorem take_sz {K n:Nat}{xs:List Rat}(h:zaq K xs)(hl:xs.length=n)(k:Nat)(hk:k<=n):SzQ (1+n*(K+1)) (zdB (xs.take k)):=by
 have h1:=znL (xs:=xs.take k) (K:=K) (λa ha=>h a (List.mem_of_mem_take ha))
 refine h1.up ?_
 rw [List.length_take]
 have:min k xs.length*(K+1)<=n*(K+1):=Nat.mul_le_mul_right _ (by omega)
 omega
theorem dot_sz {K K' n:Nat}{xs ys:List Rat}(hx:xs.length=n)(hy:ys.length=n)(h:zaq K xs)(k:zaq K' ys):SzQ (1+n*(K+K'+1)) (dotQ xs ys):=by
 have:=znL (zaq.mul h k)
 rw [show(mulL xs ys).length=n from zow hx hy] at this
 exact this
theorem zbn {xs:List Rat}{n:Nat}{r:Rat}(hx:xs.length=n):(zaH r xs).length=n:=by unfold zaH;rw [List.length_map];exact hx
open Go Go.RowKit
set_option maxHeartbeats 16000000
set_option maxRecDepth 100000
set_option linter.unusedVariables false
theorem zcW (x:Nat)(A:oA9)(n c:Nat)(w:World)(hA:zad w x A n c)(hn:n<=1):
  Calls Tryz.prog 160 #[.agg #[.slice A n c]] w λe w'=>e=.returned (.tuple #[.int .u64 (wd x 0:Nat),.bool true])/\Below w.heap.size w w':=by
 have WX:=(λw' (h:Below w.heap.size w w')=>zds x A n c 0 w' (hA.below h))
 obtain⟨a,ha⟩:∃a,wd x 0=a:=⟨_,rfl⟩
 rw [ha] at WX⊢
 have HWX:=lh9 WX
 have h1:decide ((1:Int)<(n:Int))=false:=by simp;omega
 have h2:decide ((n:Int)>1)=false:=by simp;omega
 have h3:¬ 1<n:=by omega
 clear WX ha hA
 go_enter Tryz.func160,Tryz.ntmps160
 go_wp2_with fail
 obtain⟨b1,b2,b5⟩:=zaw w 49 #[.slice A n c]
 refine(HWX.out _ b1).mono ?_
 rintro e w1 ⟨rfl,hb⟩
 have hB:=zaa b1 hb
 clear hb b1 b2 b5
 go_wp2
 go_ret2
 exact⟨rfl,hB⟩
theorem zcE (A:oA9)(n c:Nat)(w:World)(hn:1<n):
  Calls Tryz.prog 160 #[.agg #[.slice A n c]] w λe w'=>e=.returned (.tuple #[.int .u64 0,.bool false])/\Below w.heap.size w w':=by
 go_enter Tryz.func160,Tryz.ntmps160
 go_wp2
 go_ret2
 exact⟨rfl,(Below.refl _ w).alloc (Nat.le_refl _) _⟩
def TW (x t:Nat):Prop:=(x=0/\t=0)\/∃m,x=2^t*(2*m+1)
def zbx (x:Nat):Nat:=if x=0 then 0 else Lib.ctzFrom x x
theorem zlh {x t:Nat}{m:Nat}(h:x=2^t*(2*m+1)):x / 2^t%2=1:=by
 rw [h,Nat.mul_div_cancel_left _ (Nat.two_pow_pos t)];omega
theorem tw_low {x t j:Nat}{m:Nat}(h:x=2^t*(2*m+1))(hj:j<t):x / 2^j%2=0:=by
 obtain⟨s,rfl⟩:∃s,t=j+(s+1):=⟨t - j - 1,by omega⟩
 rw [h,Nat.pow_add,Nat.mul_assoc,Nat.mul_div_cancel_left _ (Nat.two_pow_pos j),Nat.pow_succ,Nat.mul_comm (2^s) 2,Nat.mul_assoc]
 exact Nat.mul_mod_right _ _
theorem tw_pos {x t:Nat}{m:Nat}(h:x=2^t*(2*m+1)):x≠0:=by
 have:=Nat.two_pow_pos t
 rw [h]
 exact Nat.ne_of_gt (Nat.mul_pos this (by omega))
theorem tw_N (x:Nat):TW x (zbx x):=by
 unfold TW zbx
 by_cases h:x=0
 ·exact .inl ⟨h,by rw [if_pos h]⟩
 ·rw [if_neg h]
  obtain⟨m,hm,_⟩:=Lib.ctzFrom_spec x x (by omega) Nat.lt_two_pow_self
  exact .inr ⟨m,hm⟩
theorem tw_find {x t:Nat}(hlow:∀j,j<t->x / 2^j%2=0)(hx:x=0->t=0)(h1:x≠0->x / 2^t%2=1):t=zbx x:=by
 rcases tw_N x with⟨e,h⟩|⟨m,h⟩
 ·rw [hx e,h]
 ·have h0:=tw_pos h
  rcases Nat.lt_trichotomy t (zbx x) with hl|hl|hl
  ·have:=tw_low h hl
   rw [h1 h0] at this;omega
  ·exact hl
  ·have:=zlh h
   rw [hlow _ hl] at this;omega
theorem tw_of {x t m:Nat}(h:x=2^t*(2*m+1)):t=zbx x:=
 tw_find (λj hj=>tw_low h hj) (λe=>absurd e (tw_pos h)) (λ_=>zlh h)
theorem zot {x k:Nat}(h0:x%18446744073709551616^k=0)(hw:wd x k≠0):64*k+Lib.ctz 64 (wd x k)=zbx x:=by
 have hlt:=zcb x k
 obtain⟨m,hm,hc⟩:=Lib.ctzFrom_spec 64 (wd x k) (by omega) (by simpa using hlt)
 have ec:Lib.ctz 64 (wd x k)=Lib.ctzFrom 64 (wd x k):=by unfold Lib.ctz;rw [if_neg hw]
 rw [ec]
 generalize Lib.ctzFrom 64 (wd x k)=c at*
 obtain⟨s,hs⟩:∃s,64=c+(s+1):=⟨63 - c,by omega⟩
 obtain⟨q,hq⟩:∃q,x / 18446744073709551616^k / 18446744073709551616=q:=⟨_,rfl⟩
 have e1:x / 18446744073709551616^k=18446744073709551616*q+wd x k:=by rw [<-hq];exact(Nat.div_add_mod _ _).symm
 have e2:x=18446744073709551616^k*(x / 18446744073709551616^k):=by
  have:=Nat.div_add_mod x (18446744073709551616^k)
  rw [h0] at this;omega
 have e3:(18446744073709551616:Nat)=2^c*(2*2^s):=by
  rw [show(18446744073709551616:Nat)=2^64 from rfl,hs,Nat.pow_add,Nat.pow_succ,Nat.mul_comm (2^s) 2]
 refine tw_of (m:=2^s*q+m) ?_
 have e4:(18446744073709551616:Nat)^k=2^(64*k):=by rw [show(18446744073709551616:Nat)=2^64 from rfl,<-Nat.pow_mul]
 have e5:18446744073709551616*q+wd x k=2^c*(2*(2^s*q+m)+1):=by
  rw [hm]
  conv=>lhs;rw [e3]
  rw [Nat.mul_assoc,<-Nat.mul_add,Nat.mul_add 2,Nat.mul_assoc,Nat.add_assoc]
 rw [e2,e1,e5,e4,<-Nat.mul_assoc,<-Nat.pow_add]
theorem ziL (x:Nat)(A:oA9)(n c:Nat)(w:World)(hA:zad w x A n c)(hn:n<=1099511627776)(hT:zaj w):
  Calls Tryz.prog 198 #[.agg #[.slice A n c]] w λe w'=>e=.returned (.int .i64 (zbx x:Nat))/\Below w.heap.size w w':=by
 have hln:=lh9 hA.len
 have hr:=hA.1
 have HT:=lh9 (λo=>hT.on ((Below.refl _ w).alloc (Nat.le_refl _) o))
 have hcl:∀o,Hid (zas (w.alloc o) w.heap.size 1 A n (zax .u64 (dg 18446744073709551616 x))):=λo=>hr.alloc (Nat.le_refl _) o
 have HC:=lh9 hcl
 clear hA hT hcl hr
 go_enter Tryz.func198,Tryz.ntmps198
 go_wp2_with fail
 go_loop [3,4,8] (λ_ _ ix=>∃k:Nat,k<=n/\ix=.int .i64 k/\Hid (x%18446744073709551616^k=0)) (λ_ _ ix=>n - (intOf ix).toNat)
 case atStart=>exact⟨0,Nat.zero_le _,rfl,by show _=_;simp [Nat.mod_one]⟩
 case round=>
  obtain⟨k,hk,rfl,H⟩:=hrel
  by_cases hlt:k<n
  ·obtain⟨ad,rfl,hadb,hc0⟩:=zdi (HC.out (.cells #[.slice A n c] 49)).out hlt
   rw [zej] at hc0
   by_cases hz:wd x k=0
   ·have HN:Hid (x%18446744073709551616^(k+1)=0):=by
     show _=_
     rw [zaR 18446744073709551616 x k,H.out,Nat.zero_add]
     unfold wd at hz
     rw [hz,Nat.mul_zero]
    rw [hz] at hc0
    clear hz
    go_wp2
    go_round
    case rel=>exact⟨k+1,by omega,by go_num,HN⟩
    case measure=>simp [intOf];omega
   ·have HV:=lh9 (zot H.out hz)
    have hwl:=zcb x k
    have WT:=(λw' (h:zaj w')=>znP ((wd x k:Nat):Int) ⟨by omega,by omega⟩ w' h)
    have hbd:=ctz_le (wd x k) (by simpa using hwl)
    have et:zgp ((wd x k:Nat):Int)=((Lib.ctz 64 (wd x k):Nat):Int):=by unfold zgp;simp
    rw [et] at WT
    obtain⟨t,ht⟩:∃t,Lib.ctz 64 (wd x k)=t:=⟨_,rfl⟩
    rw [ht] at WT HV hbd
    obtain⟨a,ha⟩:∃a,wd x k=a:=⟨_,rfl⟩
    rw [ha] at hc0 WT hz
    have hWT:=lh9 WT
    have hz':((a:Int)==0)=false:=beq_eq_false_iff_ne.2 (by omega)
    have hz2:((a:Int) !=0)=true:=by simp;omega
    clear WT ht ha et hz hwl
    go_wp2_with fail
    refine(hWT.out _ (HT.out _)).mono ?_
    rintro e w' ⟨rfl,rfl⟩
    go_wp2
    go_ret
    refine⟨ret_i64 ?_,(Below.refl _ w).alloc (Nat.le_refl _) _⟩
    have:=HV.out
    omega
  ·have hkn:k=n:=by omega
   subst hkn
   have HX:Hid (zbx x=0):=by
    show _=_
    have h1:=zbv (b:=18446744073709551616) (by decide) x
    rw [hln.out] at h1
    have h2:=H.out
    rw [Nat.mod_eq_of_lt h1] at h2
    rw [h2];rfl
   go_wp2
   go_ret
   exact⟨by rw [HX.out];rfl,(Below.refl _ w).alloc (Nat.le_refl _) _⟩
open Go Go.RowKit
set_option maxHeartbeats 16000000
set_option maxRecDepth 100000
set_option linter.unusedVariables false
theorem cop2 {q:Nat}(h:q%2≠0):Nat.gcd 2 q=1:=by
 have h1:Nat.gcd 2 q ∣ 2:=Nat.gcd_dvd_left 2 q
 have h2:=Nat.le_of_dvd (by decide) h1
 have h3:Nat.gcd 2 q≠0:=λe=>by rw [e] at h1;exact absurd (Nat.eq_zero_of_zero_dvd h1) (by decide)
 have h4:Nat.gcd 2 q≠2:=λe=>h (Nat.mod_eq_zero_of_dvd (by rw [<-e];exact Nat.gcd_dvd_right 2 q))
 omega
theorem zgj {p q:Nat}(hp:p%2=0)(hq:q%2≠0):Nat.gcd (p / 2) q=Nat.gcd p q:=by
 have e:p=2*(p / 2):=by omega
 have h:Nat.Coprime 2 q:=cop2 hq
 rw [show Nat.gcd p q=Nat.gcd (2*(p / 2)) q from by rw [<-e]]
 exact(h.gcd_mul_left_cancel (p / 2)).symm
theorem gcd_take {p q:Nat}(h:q<=p):Nat.gcd (p - q) q=Nat.gcd p q:=by
 obtain⟨s,rfl⟩:∃s,p=q+s:=⟨p - q,by omega⟩
 rw [Nat.add_sub_cancel_left,Nat.gcd_self_add_left]
open Go Go.RowKit
set_option maxHeartbeats 16000000
set_option maxRecDepth 100000
set_option linter.unusedVariables false
set_option linter.unusedSimpArgs false
def RefIn (w:World)(z:Int)(b:Bool)(A:oA9)(n c:Nat):Prop:=b=decide (z<0)/\zdk w z.natAbs A n c
theorem RefIn.below {w w':World}{z:Int}{b:Bool}{A:oA9}{n c:Nat}(h:RefIn w z b A n c)(hb:Below w.heap.size w w'):RefIn w' z b A n c:=⟨h.1,h.2.below hb⟩
open Go Go.RowKit
set_option maxHeartbeats 16000000
set_option linter.unusedVariables false
def zaP (k:Nat)(f:Nat->Rat):Rat:=zdB ((List.range k).map f)
theorem zhp (f:Nat->Rat):zaP 0 f=0:=rfl
theorem znK (rs:List Rat)(r:Rat):zdB (rs++[r])=zdB rs+r:=by
 unfold zdB
 rw [List.foldl_append]
 rfl
theorem zaQ (k:Nat)(f:Nat->Rat):zaP (k+1) f=zaP k f+f k:=by
 unfold zaP
 rw [List.range_succ,List.map_append,List.map_cons,List.map_nil,znK]
theorem zau {k:Nat}{f g:Nat->Rat}(h:∀i,i<k->f i=g i):zaP k f=zaP k g:=by
 unfold zaP
 congr 1
 exact List.map_congr_left λi hi=>h i (List.mem_range.1 hi)
theorem zcv {k:Nat}{f:Nat->Rat}(h:∀i,i<k->f i=0):zaP k f=0:=by
 induction k with
 |zero=>rfl
 |succ k ih=>rw [zaQ,ih (λi hi=>h i (by omega)),h k (by omega),Rat.add_zero]
theorem zmE (a b c d:Rat):(a+b)+(c+d)=(a+c)+(b+d):=by
 rw [Rat.add_assoc,Rat.add_assoc,<-Rat.add_assoc b c d,<-Rat.add_assoc c b d,Rat.add_comm b c]
theorem zgR (k:Nat)(f g:Nat->Rat):zaP k (λi=>f i+g i)=zaP k f+zaP k g:=by
 induction k with
 |zero=>exact(Rat.add_zero 0).symm
 |succ k ih=>rw [zaQ,zaQ,zaQ,ih,zmE]
theorem zbb (k:Nat)(a:Rat)(f:Nat->Rat):a*zaP k f=zaP k (λi=>a*f i):=by
 induction k with
 |zero=>exact Rat.mul_zero a
 |succ k ih=>rw [zaQ,zaQ,Rat.mul_add,ih]
theorem zho (n k:Nat)(f:Nat->Nat->Rat):zaP n (λi=>zaP k (λj=>f i j))=zaP k (λj=>zaP n (λi=>f i j)):=by
 induction n with
 |zero=>exact(zcv λi _=>rfl).symm
 |succ n ih=>
   rw [zaQ,ih,<-zgR]
   exact zau λj _=>(zaQ n λi=>f i j).symm
theorem zjF:∀{k:Nat} {xs ys:List Rat},xs.length=k->ys.length=k->dotQ xs ys=zaP k λi=>xs.getD i 0*ys.getD i 0
 |k,xs,ys,hx,hy=>by
   unfold dotQ zaP
   congr 1
   apply List.ext_getElem
   ·simp [hx,hy]
   ·intro i h1 h2
    have h3:i<k:=by simpa using h2
    rw [List.getElem_zipWith,List.getElem_map,List.getElem_range,List.getD_eq_getElem?_getD,List.getD_eq_getElem?_getD,List.getElem?_eq_getElem (by omega),List.getElem?_eq_getElem (by omega)]
    rfl
def zew (n m:Nat)(f:Nat->Nat->Rat):List (List Rat):=(List.range n).map λr=>(List.range m).map (f r)
def atM (M:List (List Rat))(r c:Nat):Rat:=(M.getD r []).getD c 0
structure zbh (M:List (List Rat))(n m:Nat):Prop where
 rows:M.length=n
 cols:∀L ∈ M,L.length=m
theorem zbh.row {M:List (List Rat)}{n m:Nat}(h:zbh M n m){r:Nat}(hr:r<n):(M.getD r []).length=m:=by
 have hl:=h.rows
 rw [List.getD_eq_getElem?_getD,List.getElem?_eq_getElem (by omega)]
 exact h.cols _ (List.getElem_mem _)
theorem zhq (n m:Nat)(f:Nat->Nat->Rat):zbh (zew n m f) n m:=⟨by simp [zew],λL hL=>by
 obtain⟨r,_,rfl⟩:=List.mem_map.1 hL
 simp⟩
theorem tabN_row {n m:Nat}{f:Nat->Nat->Rat}{r:Nat}(hr:r<n):(zew n m f).getD r []=(List.range m).map (f r):=by
 unfold zew
 rw [List.getD_eq_getElem?_getD,List.getElem?_map,List.getElem?_range hr]
 rfl
theorem znw {m c:Nat}{f:Nat->Rat}(hc:c<m):((List.range m).map f).getD c 0=f c:=by
 rw [List.getD_eq_getElem?_getD,List.getElem?_map,List.getElem?_range hc]
 rfl
theorem zor {n m:Nat}{f:Nat->Nat->Rat}{r c:Nat}(hr:r<n)(hc:c<m):atM (zew n m f) r c=f r c:=by
 unfold atM
 rw [tabN_row hr,znw hc]
theorem znx {m:Nat}{xs:List Rat}(h:xs.length=m):(List.range m).map (λc=>xs.getD c 0)=xs:=by
 subst h
 apply List.ext_getElem
 ·simp
 ·intro i h1 h2
  rw [List.getElem_map,List.getElem_range,List.getD_eq_getElem?_getD,List.getElem?_eq_getElem h2]
  rfl
theorem zbh.eq {M:List (List Rat)}{n m:Nat}(h:zbh M n m):zew n m (atM M)=M:=by
 have hl:=h.rows
 unfold zew
 apply List.ext_getElem
 ·simp [hl]
 ·intro i h1 h2
  rw [List.getElem_map,List.getElem_range]
  have e:M.getD i []=M[i]:=by rw [List.getD_eq_getElem?_getD,List.getElem?_eq_getElem h2];rfl
  show(List.range m).map (λc=>(M.getD i []).getD c 0)=M[i]
  rw [e]
  exact znx (h.cols _ (List.getElem_mem h2))
def colM (n:Nat)(M:List (List Rat))(c:Nat):List Rat:=(List.range n).map λr=>atM M r c
theorem colM_len (n:Nat)(M:List (List Rat))(c:Nat):(colM n M c).length=n:=by simp [colM]
def mulM (n k m:Nat)(A B:List (List Rat)):List (List Rat):=zew n m λr c=>dotQ (A.getD r []) (colM k B c)
def zcY (M:List (List Rat))(v:List Rat):List Rat:=M.map λL=>dotQ L v
theorem dims_nil (m:Nat):zbh [] 0 m:=⟨rfl,λL hL=>by cases hL⟩
