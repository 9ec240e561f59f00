/- What this claim leans on. -/
import Derived.Test.YtcojjcjgbepicaaGreatDoorEBunI
namespace Go.Proofs.YtcojjcjgbepicaaGreatDoor
open Go Go.RowKit
set_option maxHeartbeats 16000000
set_option linter.unusedVariables false
def qOf (p q:Int):Rat:=Rat.divInt p (if q=0 then 1 else q)
theorem qOf_zero (p:Int):qOf p 0=(p:Rat):=by
 unfold qOf
 rw [if_pos rfl]
 exact Rat.ext (by rw [Rat.num_divInt,Rat.num_intCast];simp) (by rw [Rat.den_divInt,Rat.den_intCast];simp)
theorem qOf_ne {p q:Int}(h:q≠0):qOf p q=Rat.divInt p q:=by unfold qOf;rw [if_neg h]
theorem zgM {z:Int}(h1: -9223372036854775808<=z)(h2:z<=9223372036854775807):Sz 1 z.natAbs:=by
 show z.natAbs<18446744073709551616^1
 rw [Nat.pow_one]
 omega
theorem qOf_sz {p q:Int}(hp1: -9223372036854775808<=p)(hp2:p<=9223372036854775807)(hq1: -9223372036854775808<=q)(hq2:q<=9223372036854775807):SzQ 1 (qOf p q):=by
 unfold qOf
 refine SzQ.made (zgM hp1 hp2) ?_ (by decide)
 split
 ·exact zgM (by decide) (by decide)
 ·exact zgM hq1 hq2
def zdw (rs:List Rat):Rat:=rs.foldl (λa b=>a+b) 0
theorem zoR (rs:List Rat)(a:Rat):rs.foldl (λa b=>a+b) a=a+zdw rs:=by
 unfold zdw
 induction rs generalizing a with
 |nil=>exact(Rat.add_zero a).symm
 |cons r t ih=>
   rw [List.foldl_cons,List.foldl_cons,ih (a+r),ih (0+r),Rat.zero_add,Rat.add_assoc]
theorem zjQ:zdw []=0:=rfl
theorem zgk (r:Rat)(rs:List Rat):zdw (r::rs)=r+zdw rs:=by
 show(r::rs).foldl (λa b=>a+b) 0=_
 rw [List.foldl_cons,zoR,Rat.zero_add]
def dotQ (xs ys:List Rat):Rat:=zdw (List.zipWith (λa b=>a*b) xs ys)
def addL (xs ys:List Rat):List Rat:=List.zipWith (λa b=>a+b) xs ys
def subL (xs ys:List Rat):List Rat:=List.zipWith (λa b=>a - b) xs ys
def mulL (xs ys:List Rat):List Rat:=List.zipWith (λa b=>a*b) xs ys
def zeZ (xs:List Rat)(r:Rat)(ys:List Rat):List Rat:=List.zipWith (λa b=>a+r*b) xs ys
def zaI (r:Rat)(xs:List Rat):List Rat:=xs.map λx=>r*x
theorem zlb {xs ys:List Rat}{f:Rat->Rat->Rat}{n:Nat}(h:xs.length=n)(k:ys.length=n):(List.zipWith f xs ys).length=n:=by rw [List.length_zipWith,h,k,Nat.min_self]
def zeC:List Rat->List Rat->Int
 |[],[]=>0
 |[],_::_=> -1
 |_::_,[]=>1
 |x::xs,y::ys=>if x=y then zeC xs ys else zgc x y
theorem cmpQ_ne {x y:Rat}(h:x≠y):zgc x y≠0:=λe=>h ((cmpQ_eq x y).1 e)
theorem zki:∀(xs ys:List Rat),zeC xs ys=0↔xs=ys
 |[],[]=>by simp [zeC]
 |[],_::_=>by simp [zeC]
 |_::_,[]=>by simp [zeC]
 |x::xs,y::ys=>by
   unfold zeC
   by_cases h:x=y
   ·rw [if_pos h,zki xs ys,h];simp
   ·rw [if_neg h]
    constructor
    ·intro e;exact absurd e (cmpQ_ne h)
    ·intro e;injection e with e1 e2;exact absurd e1 h
theorem zoF {x y:Rat}{xs ys:List Rat}(h:x=y):zeC (x::xs) (y::ys)=zeC xs ys:=by
 show(if x=y then zeC xs ys else zgc x y)=_
 exact if_pos h
theorem zmI {x y:Rat}{xs ys:List Rat}(h:x≠y):zeC (x::xs) (y::ys)=zgc x y:=by
 show(if x=y then zeC xs ys else zgc x y)=_
 exact if_neg h
theorem zdA {xs:List Rat}{k:Nat}(h:k<xs.length):xs.drop k=xs.getD k 0::xs.drop (k+1):=by
 rw [List.drop_eq_getElem_cons h,List.getD_eq_getElem?_getD,List.getElem?_eq_getElem h];rfl
theorem zii {xs ys:List Rat}{k:Nat}(hx:k<xs.length)(hy:k<ys.length)(h:xs.getD k 0=ys.getD k 0):zeC (xs.drop k) (ys.drop k)=zeC (xs.drop (k+1)) (ys.drop (k+1)):=by
 rw [zdA hx,zdA hy,zoF h]
theorem zhC {xs ys:List Rat}{k:Nat}(hx:k<xs.length)(hy:k<ys.length)(h:xs.getD k 0≠ys.getD k 0):zeC (xs.drop k) (ys.drop k)=zgc (xs.getD k 0) (ys.getD k 0):=by
 rw [zdA hx,zdA hy,zmI h]
def cmpN (a b:Nat):Int:=if a<b then -1 else if a=b then 0 else 1
theorem cmpV_end {xs ys:List Rat}{k:Nat}(hk:k=min xs.length ys.length):zeC (xs.drop k) (ys.drop k)=cmpN xs.length ys.length:=by
 unfold cmpN
 by_cases h1:xs.length<ys.length
 ·rw [if_pos h1,List.drop_of_length_le (by omega),zdA (xs:=ys) (by omega)];rfl
 ·rw [if_neg h1]
  by_cases h2:xs.length=ys.length
  ·rw [if_pos h2,List.drop_of_length_le (by omega),List.drop_of_length_le (by omega)];rfl
  ·rw [if_neg h2,List.drop_of_length_le (l:=ys) (by omega),zdA (xs:=xs) (by omega)];rfl
def zcU (xs:List Rat):Int:=if xs.all (λx=>decide (x=0)) then -1 else(xs.findIdx (λx=> !decide (x=0)):Nat)
theorem zmQ (xs:List Rat):zcU xs<0↔∀x ∈ xs,x=0:=by
 unfold zcU
 by_cases h:xs.all (λx=>decide (x=0))=true
 ·rw [if_pos h]
  constructor
  ·intro _ x hx;exact of_decide_eq_true (List.all_eq_true.1 h x hx)
  ·intro _;decide
 ·rw [if_neg h]
  constructor
  ·intro h1;omega
  ·intro h1;exact absurd (List.all_eq_true.2 λx hx=>decide_eq_true (h1 x hx)) h
theorem zjw {xs:List Rat}{k:Nat}(hk:k<xs.length)(h0:∀j,j<k->xs.getD j 0=0)(h:xs.getD k 0≠0):zcU xs=(k:Nat):=by
 unfold zcU
 have hg:∀j (hj:j<xs.length),xs.getD j 0=xs[j]:=λj hj=>by rw [List.getD_eq_getElem?_getD,List.getElem?_eq_getElem hj];rfl
 rw [if_neg]
 ·congr 1
  rw [List.findIdx_eq hk]
  refine⟨by rw [hg k hk] at h;simpa using h,λj hj=>?_⟩
  have:=h0 j hj
  rw [hg j (by omega)] at this
  simpa using this
 ·intro ha
  rw [List.all_eq_true] at ha
  rw [hg k hk] at h
  exact h (of_decide_eq_true (ha _ (List.getElem_mem hk)))
theorem zhp {xs:List Rat}(h0:∀j,j<xs.length->xs.getD j 0=0):zcU xs= -1:=by
 unfold zcU
 rw [if_pos]
 rw [List.all_eq_true]
 intro x hx
 obtain⟨j,hj,rfl⟩:=List.mem_iff_getElem.1 hx
 have:=h0 j hj
 rw [List.getD_eq_getElem?_getD,List.getElem?_eq_getElem hj] at this
 exact decide_eq_true this
def zat (K:Nat)(xs:List Rat):Prop:=∀x ∈ xs,SzQ K x
theorem zat.at_ {K:Nat}{xs:List Rat}(h:zat K xs){k:Nat}(hk:k<xs.length):SzQ K (xs.getD k 0):=by
 rw [List.getD_eq_getElem?_getD,List.getElem?_eq_getElem hk]
 exact h _ (List.getElem_mem hk)
theorem zat.up {K K':Nat}{xs:List Rat}(h:zat K xs)(e:K<=K'):zat K' xs:=λx hx=>(h x hx).up e
theorem zat.zip {K K' L:Nat}{f:Rat->Rat->Rat}(hf:∀x y,SzQ K x->SzQ K' y->SzQ L (f x y)):∀{xs ys:List Rat},zat K xs->zat K' ys->zat L (List.zipWith f xs ys)
 |[],_,_,_=>λx hx=>by cases hx
 |_::_,[],_,_=>λx hx=>by cases hx
 |x::xs,y::ys,h,k=>λz hz=>by
   rw [List.zipWith_cons_cons] at hz
   rcases List.mem_cons.1 hz with rfl|hz
   ·exact hf x y (h x List.mem_cons_self) (k y List.mem_cons_self)
   ·exact zat.zip hf (λa ha=>h a (List.mem_cons_of_mem _ ha)) (λa ha=>k a (List.mem_cons_of_mem _ ha)) z hz
theorem zat.add {K K':Nat}{xs ys:List Rat}(h:zat K xs)(k:zat K' ys):zat (K+K'+1) (addL xs ys):=zat.zip (λ_ _=>SzQ.add) h k
theorem zat.sub {K K':Nat}{xs ys:List Rat}(h:zat K xs)(k:zat K' ys):zat (K+K'+1) (subL xs ys):=zat.zip (λ_ _=>SzQ.sub) h k
theorem zat.mul {K K':Nat}{xs ys:List Rat}(h:zat K xs)(k:zat K' ys):zat (K+K') (mulL xs ys):=zat.zip (λ_ _=>SzQ.mul) h k
theorem zat.addT {K K' L:Nat}{r:Rat}{xs ys:List Rat}(h:zat K xs)(hr:SzQ L r)(k:zat K' ys):zat (K+(L+K')+1) (zeZ xs r ys):=zat.zip (λ_ _ a b=>a.add (hr.mul b)) h k
theorem zat.scale {K L:Nat}{r:Rat}{xs:List Rat}(hr:SzQ L r)(h:zat K xs):zat (L+K) (zaI r xs):=λx hx=>by
 obtain⟨y,hy,rfl⟩:=List.mem_map.1 hx
 exact hr.mul (h y hy)
theorem znJ {K:Nat}:∀{xs:List Rat},zat K xs->SzQ (1+xs.length*(K+1)) (zdw xs)
 |[],_=>by rw [List.length_nil,Nat.zero_mul];exact SzQ.zero
 |x::xs,h=>by
   rw [zgk]
   exact((h x List.mem_cons_self).add (znJ λa ha=>h a (List.mem_cons_of_mem _ ha))).up (by rw [List.length_cons,Nat.succ_mul];omega)
theorem take_sz {K n:Nat}{xs:List Rat}(h:zat K xs)(hl:xs.length=n)(k:Nat)(hk:k<=n):SzQ (1+n*(K+1)) (zdw (xs.take k)):=by
 have h1:=znJ (xs:=xs.take k) (K:=K) (λa ha=>h a (List.mem_of_mem_take ha))
 refine h1.up ?_
 rw [List.length_take]
 have:min k xs.length*(K+1)<=n*(K+1):=Nat.mul_le_mul_right _ (by omega)
 omega
theorem dot_sz {K K' n:Nat}{xs ys:List Rat}(hx:xs.length=n)(hy:ys.length=n)(h:zat K xs)(k:zat K' ys):SzQ (1+n*(K+K'+1)) (dotQ xs ys):=by
 have:=znJ (zat.mul h k)
 rw [show(mulL xs ys).length=n from zlb hx hy] at this
 exact this
theorem addT_len {xs ys:List Rat}{n:Nat}{r:Rat}(hx:xs.length=n)(hy:ys.length=n):(zeZ xs r ys).length=n:=zlb hx hy
theorem zbm {xs:List Rat}{n:Nat}{r:Rat}(hx:xs.length=n):(zaI r xs).length=n:=by unfold zaI;rw [List.length_map];exact hx
set_option maxRecDepth 100000
theorem zgG (x y:Nat)(A D:oA9)(n m c d:Nat)(w:World)(hA:zad w x A n c)(hD:zad w y D m d)(hn:n<=274877906944)(hm:m<=274877906944):
  Calls Tryz.prog 171 #[.agg #[.slice A n c],.agg #[.slice D m d]] w (zeu w (x / y) (decide (y≠0))):=by
 by_cases hy:y=0
 ·have e:x / y=0:=by rw [hy,Nat.div_zero]
  have e2:decide (y≠0)=false:=by simp [hy]
  rw [e,e2]
  exact zfn 0 0 false A D n m c d w (λw' hb=>zfo x y A D n m c d w' (hA.below hb) (hD.below hb) hy)
 ·have e2:decide (y≠0)=true:=by simp [hy]
  rw [e2]
  exact zfn (x / y) (x%y) true A D n m c d w (λw' hb=>zdS x y A D n m c d w' (hA.below hb) (hD.below hb) (by omega) (by omega) hy)
theorem zmT (x y:Nat)(A D:oA9)(n m c d:Nat)(w:World)(hA:zad w x A n c)(hD:zad w y D m d)(hn:n<=1073741824)(hm:m<=1073741824)(hT:zaj w):
  Calls Tryz.prog 122 #[.agg #[.slice A n c],.agg #[.slice D m d]] w (zkc w (x / Nat.gcd x y) (y / Nat.gcd x y)):=by
 have HO:=lh9 (λw' (hb:Below w.heap.size w w')=>gcd_of x y A D n m c d w' (hA.below hb) (hD.below hb) hn hm (hT.on hb))
 obtain⟨g,hg⟩:∃g,Nat.gcd x y=g:=⟨_,rfl⟩
 have lg:(dg 18446744073709551616 g).length<=2147483648:=by
  rw [<-hg]
  rcases Nat.eq_zero_or_pos x with e|e
  ·rw [e,Nat.gcd_zero_left,hD.len];omega
  ·exact Nat.le_trans (zbB (by decide) (Nat.gcd_le_left y e)) (by rw [hA.len];omega)
 rw [hg] at HO⊢
 have HDA:=lh9 (λw' (hb:Below w.heap.size w w') A1 n1 c1 (h1:zad w' g A1 n1 c1)=>zgG x g A A1 n n1 c c1 w' (hA.below hb) h1 (by omega) (by rw [<-h1.len];omega))
 have HDB:=lh9 (λw' (hb:Below w.heap.size w w') A1 n1 c1 (h1:zad w' g A1 n1 c1)=>zgG y g D A1 m n1 d c1 w' (hD.below hb) h1 (by omega) (by rw [<-h1.len];omega))
 obtain⟨X,hX⟩:∃g',x / g=g':=⟨_,rfl⟩
 obtain⟨Y,hY⟩:∃g',y / g=g':=⟨_,rfl⟩
 obtain⟨bb,hbb⟩:∃g':Bool,decide (g≠0)=g':=⟨_,rfl⟩
 rw [hX,hbb] at HDA
 rw [hY,hbb] at HDB
 rw [hX,hY]
 clear hA hD hT hg lg hX hY hbb
 go_enter Tryz.func122,Tryz.ntmps122
 go_wp2_with fail
 obtain⟨b1,b2,b3,b4,b5⟩:=zbA w 49 49 49 #[.slice A n c] #[.slice D m d] #[.slice none 0 0]
 obtain⟨W3,hW3⟩:∃W,((w.alloc (.cells #[.slice A n c] 49)).alloc (.cells #[.slice D m d] 49)).alloc (.cells #[.slice none 0 0] 49)=W:=⟨_,rfl⟩
 rw [hW3] at b1 b2 b3 b4 b5⊢
 have hs3:W3.heap.size=w.heap.size+1+1+1:=by rw [<-hW3];simp
 have kA:=b2.one.alloc (.cells #[.slice none 0 0] 49)
 have kD:=b3.one.alloc (.cells #[.slice none 0 0] 49)
 have kx:=b4.one.alloc (.cells #[.slice none 0 0] 49)
 have ky:=zbM.new W3 49 (.slice none 0 0)
 rw [hs3] at ky
 have hB:=b1.alloc b1.size (.cells #[.slice none 0 0] 49)
 clear b1 b2 b3 b4 b5 hW3 hs3
 generalize W3.alloc (.cells #[.slice none 0 0] 49)=W4 at*
 obtain⟨p,hp⟩:∃p,w.heap.size=p:=⟨_,rfl⟩
 have hpw:w.heap.size<=p:=by omega
 refine(HO.out _ hB).mono ?_
 rw [hp] at kA kD kx ky⊢
 clear hp
 rintro e w1 ⟨A1,n1,c1,rfl,hg1,hb⟩
 obtain⟨d1,d2,d3⟩:=zaw w1 49 #[.slice A1 n1 c1]
 have hbb:=zaa hb d1
 have kA:=kA.keep hbb
 have kD:=kD.keep hbb
 have kx:=kx.keep hbb
 have ky:=ky.keep hbb
 have hB:=zaa hB hbb
 have hg1:=hg1.below d1
 have kg:=d2.one
 clear d1 d2 d3 hb hbb
 have e1:=kA.cell
 have e2:=kg.cell
 go_wp2_with fail
 generalize hW5:w1.alloc (.cells #[.slice A1 n1 c1] 49)=W5 at*
 generalize w1.heap.size=z1 at*
 clear hW5
 refine(HDA.out _ hB A1 n1 c1 hg1).mono ?_
 clear e1 e2
 rintro e w2 ⟨A2,n2,c2,rfl,hx2,hb⟩
 have hz2:=(ky.keep hb).lt
 obtain⟨d1,d2,d3⟩:=zaw w2 49 #[.slice A2 n2 c2]
 have hbb:=zaa hb d1
 have kD:=kD.keep hbb
 have kx:=kx.keep hbb
 have ky:=ky.keep hbb
 have kg:=kg.keep hbb
 have hB:=zaa hB hbb
 have hg1:=hg1.below hbb
 have hx2:=hx2.below d1
 have k7:=d2.one
 clear d1 d2 d3 hb hbb kA
 have e1:=kD.cell
 have e2:=kg.cell
 go_wp2_with fail
 generalize hW6:w2.alloc (.cells #[.slice A2 n2 c2] 49)=W6 at*
 generalize w2.heap.size=z2 at*
 clear hW6
 refine(HDB.out _ hB A1 n1 c1 hg1).mono ?_
 clear e1 e2
 rintro e w3 ⟨A3,n3,c3,rfl,hy3,hb⟩
 have hz3:=(ky.keep hb).lt
 obtain⟨d1,d2,d3⟩:=zaw w3 49 #[.slice A3 n3 c3]
 have hbb:=zaa hb d1
 have kx:=kx.keep hbb
 have ky:=ky.keep hbb
 have k7:=k7.keep hbb
 have hB:=zaa hB hbb
 have hx2:=hx2.below hbb
 have hy3:=hy3.below d1
 have k9:=d2.one
 clear d1 d2 d3 hb hbb kD kg hg1
 go_wp2_with fail
 generalize hW7:w3.alloc (.cells #[.slice A3 n3 c3] 49)=W7 at*
 generalize w3.heap.size=z3 at*
 clear hW7
 have q7:W7.cell? ⟨z2,0,none⟩=some (.slice A2 n2 c2):=k7.cell
 have q9:W7.cell? ⟨z3,0,none⟩=some (.slice A3 n3 c3):=k9.cell
 have qx:W7.cell? ⟨p+1+1,0,none⟩=some (.slice none 0 0):=kx.cell
 have qy:W7.cell? ⟨p+1+1+1,0,none⟩=some (.slice none 0 0):=ky.cell
 have fx:W7.frozen? ⟨p+1+1,0,none⟩=false:=kx.frozen
 have fy:W7.frozen? ⟨p+1+1+1,0,none⟩=false:=ky.frozen
 have q9':=zag (q:=⟨p+1+1,0,none⟩) (.slice A2 n2 c2) (by show z3≠p+1+1;omega) q9
 have kx1:=kx.set_ (.slice A2 n2 c2)
 have ky1:=ky.far (p:=⟨p+1+1,0,none⟩) (by show p+1+1+1≠p+1+1;omega) (.slice A2 n2 c2)
 have qy':=ky1.cell
 have fy':=ky1.frozen
 have hx4:=zan hx2 kx (.slice A2 n2 c2)
 have hy4:=zan hy3 kx (.slice A2 n2 c2)
 have rx:=(kx1.far (p:=⟨p+1+1+1,0,none⟩) (by show p+1+1≠p+1+1+1;omega) (.slice A3 n3 c3)).cell
 have ry:=(ky1.set_ (.slice A3 n3 c3)).cell
 have HE : Hid (zkc w X Y (.returned (.tuple #[.agg #[.slice A2 n2 c2],.agg #[.slice A3 n3 c3]])) ((W7.setCell ⟨p + 1 + 1,0,none⟩ (.slice A2 n2 c2)).setCell ⟨p + 1 + 1 + 1,0,none⟩ (.slice A3 n3 c3)).drew) :=
  ⟨_,_,_,_,_,_,rfl,zan hx4 ky1 _,zan hy4 ky1 _,(hB.setCell (p:=⟨p+1+1,0,none⟩) (by show w.heap.size<=p+1+1;omega) _).setCell (p:=⟨p+1+1+1,0,none⟩) (by show w.heap.size<=p+1+1+1;omega) _|>.drew⟩
 clear k7 k9 kx ky hB hx2 hy3 kx1 ky1 hx4 hy4
 go_region
 all_goals
  go_wp2
  refine bodyPost_ret (v:=.tuple #[.agg #[.slice A2 n2 c2],.agg #[.slice A3 n3 c3]]) (by simp [results,Tryz.results122,go_sem,rx,ry]) rfl ?_
  exact HE.out
set_option linter.unusedSimpArgs false
theorem Sz.of_words {w:World}{x K n c:Nat}{A:oA9}(h:zad w x A n c)(hn:n<=K):Sz K x:=by
 have h1:=zbs (b:=18446744073709551616) (by decide) x
 rw [h.len] at h1
 exact Nat.lt_of_lt_of_le h1 (Nat.pow_le_pow_right (by decide) hn)
theorem zbN:GcdC where
 of x y A D n m c d w hA hD hn hm hT:=gcd_of x y A D n m c d w hA hD hn hm hT
 reduce x y A D n m c d w hA hD hn hm hT:=zmT x y A D n m c d w hA hD hn hm hT
