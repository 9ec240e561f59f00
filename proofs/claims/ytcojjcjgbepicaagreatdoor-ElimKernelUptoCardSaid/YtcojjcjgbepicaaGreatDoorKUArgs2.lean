/- What this claim leans on. -/
import Derived.Test.YtcojjcjgbepicaaGreatDoorKW8Far
import Derived.Deep.Matrix
namespace Go.Proofs.YtcojjcjgbepicaaGreatDoor
open Go Go.RowKit
open Go.ChangeShapes Go.WideShapes Go.ChangeAt Go.Deep
set_option maxHeartbeats 16000000
set_option linter.unusedVariables false
namespace UA
set_option maxHeartbeats 16000000
theorem mem_le {H:Type}{d:DataW H}{l:List (DataW H)}(h:d ∈ l):Rows.uptoBulk d<=Rows.uptoBulkAll l:=by
 induction l with
 |nil=>cases h
 |cons x r ih=>
   simp only [Rows.uptoBulkAll]
   rcases List.mem_cons.1 h with rfl|h
   ·omega
   ·have:=ih h;omega
end UA
open Go Go.RowKit
set_option maxHeartbeats 16000000
set_option linter.unusedVariables false
def zcI (w:World)(q r:Nat)(b:Bool)(e:Ending)(w':World):Prop:=∃(A:oA9) (n c:Nat) (B:oA9) (m d:Nat),e=.returned (.tuple #[.agg #[.slice A n c],.agg #[.slice B m d],.bool b])/\zad w' q A n c/\zad w' r B m d/\Below w.heap.size w w'
def zex (w:World)(x:Nat)(b:Bool)(e:Ending)(w':World):Prop:=∃(A:oA9) (n c:Nat),e=.returned (.tuple #[.agg #[.slice A n c],.bool b])/\zad w' x A n c/\Below w.heap.size w w'
def zgq (w:World)(q x:Nat)(b:Bool)(e:Ending)(w':World):Prop:=∃(A:oA9) (n c:Nat),e=.returned (.tuple #[.agg #[.slice A n c],.int .u64 (x:Int),.bool b])/\zad w' q A n c/\Below w.heap.size w w'
structure QuotC:Prop where
 divMod:∀(x y:Nat) (A D:oA9) (n m c d:Nat) (w:World),zad w x A n c->zad w y D m d->n<=1073741824->m<=1073741824->y≠0->Calls Tryz.prog 199 #[.agg #[.slice A n c],.agg #[.slice D m d]] w (zcI w (x / y) (x%y) true)
 divModNo:∀(x y:Nat) (A D:oA9) (n m c d:Nat) (w:World),zad w x A n c->zad w y D m d->n<=1073741824->m<=1073741824->y=0->Calls Tryz.prog 199 #[.agg #[.slice A n c],.agg #[.slice D m d]] w (zcI w 0 0 false)
 div:∀(x y:Nat) (A D:oA9) (n m c d:Nat) (w:World),zad w x A n c->zad w y D m d->n<=1073741824->m<=1073741824->y≠0->Calls Tryz.prog 171 #[.agg #[.slice A n c],.agg #[.slice D m d]] w (zex w (x / y) true)
 mod:∀(x y:Nat) (A D:oA9) (n m c d:Nat) (w:World),zad w x A n c->zad w y D m d->n<=1073741824->m<=1073741824->y≠0->Calls Tryz.prog 210 #[.agg #[.slice A n c],.agg #[.slice D m d]] w (zex w (x%y) true)
 byWord:∀(x a:Nat) (A:oA9) (n c:Nat) (w:World),zad w x A n c->n<=1073741824->a<18446744073709551616->a≠0->Calls Tryz.prog 214 #[.agg #[.slice A n c],.int .u64 a] w (zgq w (x / a) (x%a) true)
 byWordNo:∀(x:Nat) (A:oA9) (n c:Nat) (w:World),zad w x A n c->n<=1073741824->Calls Tryz.prog 214 #[.agg #[.slice A n c],.int .u64 0] w (zgq w 0 0 false)
open Go Go.RowKit
set_option maxHeartbeats 16000000
set_option linter.unusedVariables false
def qOf (p q:Int):Rat:=Rat.divInt p (if q=0 then 1 else q)
theorem qOf_zero (p:Int):qOf p 0=(p:Rat):=by
 unfold qOf
 rw [if_pos rfl]
 exact Rat.ext (by rw [Rat.num_divInt,Rat.num_intCast];simp) (by rw [Rat.den_divInt,Rat.den_intCast];simp)
theorem qOf_ne {p q:Int}(h:q≠0):qOf p q=Rat.divInt p q:=by unfold qOf;rw [if_neg h]
theorem zgO {z:Int}(h1: -9223372036854775808<=z)(h2:z<=9223372036854775807):Sz 1 z.natAbs:=by
 show z.natAbs<18446744073709551616^1
 rw [Nat.pow_one]
 omega
theorem qOf_sz {p q:Int}(hp1: -9223372036854775808<=p)(hp2:p<=9223372036854775807)(hq1: -9223372036854775808<=q)(hq2:q<=9223372036854775807):SzQ 1 (qOf p q):=by
 unfold qOf
 refine SzQ.made (zgO hp1 hp2) ?_ (by decide)
 split
 ·exact zgO (by decide) (by decide)
 ·exact zgO hq1 hq2
def zdz (rs:List Rat):Rat:=rs.foldl (λa b=>a+b) 0
theorem zoN (rs:List Rat)(a:Rat):rs.foldl (λa b=>a+b) a=a+zdz rs:=by
 unfold zdz
 induction rs generalizing a with
 |nil=>exact(Rat.add_zero a).symm
 |cons r t ih=>
   rw [List.foldl_cons,List.foldl_cons,ih (a+r),ih (0+r),Rat.zero_add,Rat.add_assoc]
theorem zjP:zdz []=0:=rfl
theorem zgk (r:Rat)(rs:List Rat):zdz (r::rs)=r+zdz rs:=by
 show(r::rs).foldl (λa b=>a+b) 0=_
 rw [List.foldl_cons,zoN,Rat.zero_add]
def dotQ (xs ys:List Rat):Rat:=zdz (List.zipWith (λa b=>a*b) xs ys)
def addL (xs ys:List Rat):List Rat:=List.zipWith (λa b=>a+b) xs ys
def subL (xs ys:List Rat):List Rat:=List.zipWith (λa b=>a - b) xs ys
def mulL (xs ys:List Rat):List Rat:=List.zipWith (λa b=>a*b) xs ys
def zho (xs:List Rat)(r:Rat)(ys:List Rat):List Rat:=List.zipWith (λa b=>a+r*b) xs ys
def zaH (r:Rat)(xs:List Rat):List Rat:=xs.map λx=>r*x
theorem zoq {xs ys:List Rat}{f:Rat->Rat->Rat}{n:Nat}(h:xs.length=n)(k:ys.length=n):(List.zipWith f xs ys).length=n:=by rw [List.length_zipWith,h,k,Nat.min_self]
def zeF:List Rat->List Rat->Int
 |[],[]=>0
 |[],_::_=> -1
 |_::_,[]=>1
 |x::xs,y::ys=>if x=y then zeF xs ys else zgb x y
theorem cmpQ_ne {x y:Rat}(h:x≠y):zgb x y≠0:=λe=>h ((cmpQ_eq x y).1 e)
theorem zkh:∀(xs ys:List Rat),zeF xs ys=0↔xs=ys
 |[],[]=>by simp [zeF]
 |[],_::_=>by simp [zeF]
 |_::_,[]=>by simp [zeF]
 |x::xs,y::ys=>by
   unfold zeF
   by_cases h:x=y
   ·rw [if_pos h,zkh xs ys,h];simp
   ·rw [if_neg h]
    constructor
    ·intro e;exact absurd e (cmpQ_ne h)
    ·intro e;injection e with e1 e2;exact absurd e1 h
theorem zoz {x y:Rat}{xs ys:List Rat}(h:x=y):zeF (x::xs) (y::ys)=zeF xs ys:=by
 show(if x=y then zeF xs ys else zgb x y)=_
 exact if_pos h
theorem zmB {x y:Rat}{xs ys:List Rat}(h:x≠y):zeF (x::xs) (y::ys)=zgb x y:=by
 show(if x=y then zeF xs ys else zgb x y)=_
 exact if_neg h
theorem zdB {xs:List Rat}{k:Nat}(h:k<xs.length):xs.drop k=xs.getD k 0::xs.drop (k+1):=by
 rw [List.drop_eq_getElem_cons h,List.getD_eq_getElem?_getD,List.getElem?_eq_getElem h];rfl
theorem zij {xs ys:List Rat}{k:Nat}(hx:k<xs.length)(hy:k<ys.length)(h:xs.getD k 0=ys.getD k 0):zeF (xs.drop k) (ys.drop k)=zeF (xs.drop (k+1)) (ys.drop (k+1)):=by
 rw [zdB hx,zdB hy,zoz h]
theorem zhF {xs ys:List Rat}{k:Nat}(hx:k<xs.length)(hy:k<ys.length)(h:xs.getD k 0≠ys.getD k 0):zeF (xs.drop k) (ys.drop k)=zgb (xs.getD k 0) (ys.getD k 0):=by
 rw [zdB hx,zdB hy,zmB h]
def cmpN (a b:Nat):Int:=if a<b then -1 else if a=b then 0 else 1
theorem cmpV_end {xs ys:List Rat}{k:Nat}(hk:k=min xs.length ys.length):zeF (xs.drop k) (ys.drop k)=cmpN xs.length ys.length:=by
 unfold cmpN
 by_cases h1:xs.length<ys.length
 ·rw [if_pos h1,List.drop_of_length_le (by omega),zdB (xs:=ys) (by omega)];rfl
 ·rw [if_neg h1]
  by_cases h2:xs.length=ys.length
  ·rw [if_pos h2,List.drop_of_length_le (by omega),List.drop_of_length_le (by omega)];rfl
  ·rw [if_neg h2,List.drop_of_length_le (l:=ys) (by omega),zdB (xs:=xs) (by omega)];rfl
def zec (xs:List Rat):Int:=if xs.all (λx=>decide (x=0)) then -1 else(xs.findIdx (λx=> !decide (x=0)):Nat)
theorem zmJ (xs:List Rat):zec xs<0↔∀x ∈ xs,x=0:=by
 unfold zec
 by_cases h:xs.all (λx=>decide (x=0))=true
 ·rw [if_pos h]
  constructor
  ·intro _ x hx;exact of_decide_eq_true (List.all_eq_true.1 h x hx)
  ·intro _;decide
 ·rw [if_neg h]
  constructor
  ·intro h1;omega
  ·intro h1;exact absurd (List.all_eq_true.2 λx hx=>decide_eq_true (h1 x hx)) h
theorem zoM {xs:List Rat}{k:Nat}(hk:k<xs.length)(h0:∀j,j<k->xs.getD j 0=0)(h:xs.getD k 0≠0):zec xs=(k:Nat):=by
 unfold zec
 have hg:∀j (hj:j<xs.length),xs.getD j 0=xs[j]:=λj hj=>by rw [List.getD_eq_getElem?_getD,List.getElem?_eq_getElem hj];rfl
 rw [if_neg]
 ·congr 1
  rw [List.findIdx_eq hk]
  refine⟨by rw [hg k hk] at h;simpa using h,λj hj=>?_⟩
  have:=h0 j hj
  rw [hg j (by omega)] at this
  simpa using this
 ·intro ha
  rw [List.all_eq_true] at ha
  rw [hg k hk] at h
  exact h (of_decide_eq_true (ha _ (List.getElem_mem hk)))
theorem zlm {xs:List Rat}(h0:∀j,j<xs.length->xs.getD j 0=0):zec xs= -1:=by
 unfold zec
 rw [if_pos]
 rw [List.all_eq_true]
 intro x hx
 obtain⟨j,hj,rfl⟩:=List.mem_iff_getElem.1 hx
 have:=h0 j hj
 rw [List.getD_eq_getElem?_getD,List.getElem?_eq_getElem hj] at this
 exact decide_eq_true this
def zar (K:Nat)(xs:List Rat):Prop:=∀x ∈ xs,SzQ K x
theorem zar.at_ {K:Nat}{xs:List Rat}(h:zar K xs){k:Nat}(hk:k<xs.length):SzQ K (xs.getD k 0):=by
 rw [List.getD_eq_getElem?_getD,List.getElem?_eq_getElem hk]
 exact h _ (List.getElem_mem hk)
theorem zar.up {K K':Nat}{xs:List Rat}(h:zar K xs)(e:K<=K'):zar K' xs:=λx hx=>(h x hx).up e
theorem zar.zip {K K' L:Nat}{f:Rat->Rat->Rat}(hf:∀x y,SzQ K x->SzQ K' y->SzQ L (f x y)):∀{xs ys:List Rat},zar K xs->zar K' ys->zar L (List.zipWith f xs ys)
 |[],_,_,_=>λx hx=>by cases hx
 |_::_,[],_,_=>λx hx=>by cases hx
 |x::xs,y::ys,h,k=>λz hz=>by
   rw [List.zipWith_cons_cons] at hz
   rcases List.mem_cons.1 hz with rfl|hz
   ·exact hf x y (h x List.mem_cons_self) (k y List.mem_cons_self)
   ·exact zar.zip hf (λa ha=>h a (List.mem_cons_of_mem _ ha)) (λa ha=>k a (List.mem_cons_of_mem _ ha)) z hz
theorem zar.add {K K':Nat}{xs ys:List Rat}(h:zar K xs)(k:zar K' ys):zar (K+K'+1) (addL xs ys):=zar.zip (λ_ _=>SzQ.add) h k
theorem zar.sub {K K':Nat}{xs ys:List Rat}(h:zar K xs)(k:zar K' ys):zar (K+K'+1) (subL xs ys):=zar.zip (λ_ _=>SzQ.sub) h k
theorem zar.mul {K K':Nat}{xs ys:List Rat}(h:zar K xs)(k:zar K' ys):zar (K+K') (mulL xs ys):=zar.zip (λ_ _=>SzQ.mul) h k
theorem zar.addT {K K' L:Nat}{r:Rat}{xs ys:List Rat}(h:zar K xs)(hr:SzQ L r)(k:zar K' ys):zar (K+(L+K')+1) (zho xs r ys):=zar.zip (λ_ _ a b=>a.add (hr.mul b)) h k
theorem zar.scale {K L:Nat}{r:Rat}{xs:List Rat}(hr:SzQ L r)(h:zar K xs):zar (L+K) (zaH r xs):=λx hx=>by
 obtain⟨y,hy,rfl⟩:=List.mem_map.1 hx
 exact hr.mul (h y hy)
theorem znE {K:Nat}:∀{xs:List Rat},zar K xs->SzQ (1+xs.length*(K+1)) (zdz xs)
 |[],_=>by rw [List.length_nil,Nat.zero_mul];exact SzQ.zero
 |x::xs,h=>by
   rw [zgk]
   exact((h x List.mem_cons_self).add (znE λa ha=>h a (List.mem_cons_of_mem _ ha))).up (by rw [List.length_cons,Nat.succ_mul];omega)
theorem take_sz {K n:Nat}{xs:List Rat}(h:zar K xs)(hl:xs.length=n)(k:Nat)(hk:k<=n):SzQ (1+n*(K+1)) (zdz (xs.take k)):=by
 have h1:=znE (xs:=xs.take k) (K:=K) (λa ha=>h a (List.mem_of_mem_take ha))
 refine h1.up ?_
 rw [List.length_take]
 have:min k xs.length*(K+1)<=n*(K+1):=Nat.mul_le_mul_right _ (by omega)
 omega
theorem dot_sz {K K' n:Nat}{xs ys:List Rat}(hx:xs.length=n)(hy:ys.length=n)(h:zar K xs)(k:zar K' ys):SzQ (1+n*(K+K'+1)) (dotQ xs ys):=by
 have:=znE (zar.mul h k)
 rw [show(mulL xs ys).length=n from zoq hx hy] at this
 exact this
theorem zbm {xs:List Rat}{n:Nat}{r:Rat}(hx:xs.length=n):(zaH r xs).length=n:=by unfold zaH;rw [List.length_map];exact hx
open Go Go.RowKit
set_option maxHeartbeats 16000000
set_option maxRecDepth 100000
set_option linter.unusedVariables false
theorem cop2 {q:Nat}(h:q%2≠0):Nat.gcd 2 q=1:=by
 have h1:Nat.gcd 2 q ∣ 2:=Nat.gcd_dvd_left 2 q
 have h2:=Nat.le_of_dvd (by decide) h1
 have h3:Nat.gcd 2 q≠0:=λe=>by rw [e] at h1;exact absurd (Nat.eq_zero_of_zero_dvd h1) (by decide)
 have h4:Nat.gcd 2 q≠2:=λe=>h (Nat.mod_eq_zero_of_dvd (by rw [<-e];exact Nat.gcd_dvd_right 2 q))
 omega
theorem zgf {p q:Nat}(hp:p%2=0)(hq:q%2≠0):Nat.gcd (p / 2) q=Nat.gcd p q:=by
 have e:p=2*(p / 2):=by omega
 have h:Nat.Coprime 2 q:=cop2 hq
 rw [show Nat.gcd p q=Nat.gcd (2*(p / 2)) q from by rw [<-e]]
 exact(h.gcd_mul_left_cancel (p / 2)).symm
theorem gcd_take {p q:Nat}(h:q<=p):Nat.gcd (p - q) q=Nat.gcd p q:=by
 obtain⟨s,rfl⟩:∃s,p=q+s:=⟨p - q,by omega⟩
 rw [Nat.add_sub_cancel_left,Nat.gcd_self_add_left]
open Go Go.RowKit
set_option maxHeartbeats 16000000
set_option maxRecDepth 100000
set_option linter.unusedVariables false
set_option linter.unusedSimpArgs false
def RefIn (w:World)(z:Int)(b:Bool)(A:oA9)(n c:Nat):Prop:=b=decide (z<0)/\zdj w z.natAbs A n c
theorem RefIn.below {w w':World}{z:Int}{b:Bool}{A:oA9}{n c:Nat}(h:RefIn w z b A n c)(hb:Below w.heap.size w w'):RefIn w' z b A n c:=⟨h.1,h.2.below hb⟩
open Go Go.RowKit
set_option maxHeartbeats 16000000
set_option linter.unusedVariables false
def zaF (k:Nat)(f:Nat->Rat):Rat:=zdz ((List.range k).map f)
theorem zhj (f:Nat->Rat):zaF 0 f=0:=rfl
theorem znD (rs:List Rat)(r:Rat):zdz (rs++[r])=zdz rs+r:=by
 unfold zdz
 rw [List.foldl_append]
 rfl
theorem zaP (k:Nat)(f:Nat->Rat):zaF (k+1) f=zaF k f+f k:=by
 unfold zaF
 rw [List.range_succ,List.map_append,List.map_cons,List.map_nil,znD]
theorem zav {k:Nat}{f g:Nat->Rat}(h:∀i,i<k->f i=g i):zaF k f=zaF k g:=by
 unfold zaF
 congr 1
 exact List.map_congr_left λi hi=>h i (List.mem_range.1 hi)
theorem zcc {k:Nat}{f:Nat->Rat}(h:∀i,i<k->f i=0):zaF k f=0:=by
 induction k with
 |zero=>rfl
 |succ k ih=>rw [zaP,ih (λi hi=>h i (by omega)),h k (by omega),Rat.add_zero]
theorem zms (a b c d:Rat):(a+b)+(c+d)=(a+c)+(b+d):=by
 rw [Rat.add_assoc,Rat.add_assoc,<-Rat.add_assoc b c d,<-Rat.add_assoc c b d,Rat.add_comm b c]
theorem zfu (k:Nat)(f g:Nat->Rat):zaF k (λi=>f i+g i)=zaF k f+zaF k g:=by
 induction k with
 |zero=>exact(Rat.add_zero 0).symm
 |succ k ih=>rw [zaP,zaP,zaP,ih,zms]
theorem zaZ (k:Nat)(a:Rat)(f:Nat->Rat):a*zaF k f=zaF k (λi=>a*f i):=by
 induction k with
 |zero=>exact Rat.mul_zero a
 |succ k ih=>rw [zaP,zaP,Rat.mul_add,ih]
theorem zhi (n k:Nat)(f:Nat->Nat->Rat):zaF n (λi=>zaF k (λj=>f i j))=zaF k (λj=>zaF n (λi=>f i j)):=by
 induction n with
 |zero=>exact(zcc λi _=>rfl).symm
 |succ n ih=>
   rw [zaP,ih,<-zfu]
   exact zav λj _=>(zaP n λi=>f i j).symm
theorem zpy {k c:Nat}(hc:c<k)(f:Nat->Rat):zaF k (λi=>f i*(if i=c then 1 else 0))=f c:=by
 induction k with
 |zero=>omega
 |succ k ih=>
   rw [zaP]
   by_cases h:c=k
   ·subst h
    rw [if_pos rfl,Rat.mul_one,zcc λi hi=>by rw [if_neg (by omega),Rat.mul_zero],Rat.zero_add]
   ·rw [if_neg (by omega),Rat.mul_zero,Rat.add_zero,ih (by omega)]
theorem zoC:∀{k:Nat} {xs ys:List Rat},xs.length=k->ys.length=k->dotQ xs ys=zaF k λi=>xs.getD i 0*ys.getD i 0
 |k,xs,ys,hx,hy=>by
   unfold dotQ zaF
   congr 1
   apply List.ext_getElem
   ·simp [hx,hy]
   ·intro i h1 h2
    have h3:i<k:=by simpa using h2
    rw [List.getElem_zipWith,List.getElem_map,List.getElem_range,List.getD_eq_getElem?_getD,List.getD_eq_getElem?_getD,List.getElem?_eq_getElem (by omega),List.getElem?_eq_getElem (by omega)]
    rfl
def zer (n m:Nat)(f:Nat->Nat->Rat):List (List Rat):=(List.range n).map λr=>(List.range m).map (f r)
def atM (M:List (List Rat))(r c:Nat):Rat:=(M.getD r []).getD c 0
structure zbe (M:List (List Rat))(n m:Nat):Prop where
 rows:M.length=n
 cols:∀L ∈ M,L.length=m
theorem zbe.row {M:List (List Rat)}{n m:Nat}(h:zbe M n m){r:Nat}(hr:r<n):(M.getD r []).length=m:=by
 have hl:=h.rows
 rw [List.getD_eq_getElem?_getD,List.getElem?_eq_getElem (by omega)]
 exact h.cols _ (List.getElem_mem _)
theorem zhk (n m:Nat)(f:Nat->Nat->Rat):zbe (zer n m f) n m:=⟨by simp [zer],λL hL=>by
 obtain⟨r,_,rfl⟩:=List.mem_map.1 hL
 simp⟩
theorem tabN_row {n m:Nat}{f:Nat->Nat->Rat}{r:Nat}(hr:r<n):(zer n m f).getD r []=(List.range m).map (f r):=by
 unfold zer
 rw [List.getD_eq_getElem?_getD,List.getElem?_map,List.getElem?_range hr]
 rfl
theorem znn {m c:Nat}{f:Nat->Rat}(hc:c<m):((List.range m).map f).getD c 0=f c:=by
 rw [List.getD_eq_getElem?_getD,List.getElem?_map,List.getElem?_range hc]
 rfl
theorem tabN_at {n m:Nat}{f:Nat->Nat->Rat}{r c:Nat}(hr:r<n)(hc:c<m):atM (zer n m f) r c=f r c:=by
 unfold atM
 rw [tabN_row hr,znn hc]
theorem zno {m:Nat}{xs:List Rat}(h:xs.length=m):(List.range m).map (λc=>xs.getD c 0)=xs:=by
 subst h
 apply List.ext_getElem
 ·simp
 ·intro i h1 h2
  rw [List.getElem_map,List.getElem_range,List.getD_eq_getElem?_getD,List.getElem?_eq_getElem h2]
  rfl
theorem zbe.eq {M:List (List Rat)}{n m:Nat}(h:zbe M n m):zer n m (atM M)=M:=by
 have hl:=h.rows
 unfold zer
 apply List.ext_getElem
 ·simp [hl]
 ·intro i h1 h2
  rw [List.getElem_map,List.getElem_range]
  have e:M.getD i []=M[i]:=by rw [List.getD_eq_getElem?_getD,List.getElem?_eq_getElem h2];rfl
  show(List.range m).map (λc=>(M.getD i []).getD c 0)=M[i]
  rw [e]
  exact zno (h.cols _ (List.getElem_mem h2))
def colM (n:Nat)(M:List (List Rat))(c:Nat):List Rat:=(List.range n).map λr=>atM M r c
theorem colM_len (n:Nat)(M:List (List Rat))(c:Nat):(colM n M c).length=n:=by simp [colM]
def mulM (n k m:Nat)(A B:List (List Rat)):List (List Rat):=zer n m λr c=>dotQ (A.getD r []) (colM k B c)
def zdh (M:List (List Rat))(v:List Rat):List Rat:=M.map λL=>dotQ L v
theorem dims_nil (m:Nat):zbe [] 0 m:=⟨rfl,λL hL=>by cases hL⟩
