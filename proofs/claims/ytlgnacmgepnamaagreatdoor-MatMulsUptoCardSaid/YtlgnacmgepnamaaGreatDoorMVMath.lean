/- What this claim leans on. -/
import Derived.Test.YtlgnacmgepnamaaGreatDoorMMeet3
namespace Go.Proofs.YtlgnacmgepnamaaGreatDoor
open Go Go.RowKit
set_option maxHeartbeats 16000000
set_option linter.unusedVariables false
def qOf (p q:Int):Rat:=Rat.divInt p (if q=0 then 1 else q)
theorem zma (p:Int):qOf p 0=(p:Rat):=by
 unfold qOf
 rw [if_pos rfl]
 exact Rat.ext (by rw [Rat.num_divInt,Rat.num_intCast];simp) (by rw [Rat.den_divInt,Rat.den_intCast];simp)
theorem qOf_ne {p q:Int}(h:q≠0):qOf p q=Rat.divInt p q:=by unfold qOf;rw [if_neg h]
theorem zeu {z:Int}(h1: -9223372036854775808<=z)(h2:z<=9223372036854775807):Sz 1 z.natAbs:=by
 show z.natAbs<18446744073709551616^1
 rw [Nat.pow_one]
 omega
theorem qOf_sz {p q:Int}(hp1: -9223372036854775808<=p)(hp2:p<=9223372036854775807)(hq1: -9223372036854775808<=q)(hq2:q<=9223372036854775807):SzQ 1 (qOf p q):=by
 unfold qOf
 refine SzQ.made (zeu hp1 hp2) ?_ (by decide)
 split
 ·exact zeu (by decide) (by decide)
 ·exact zeu hq1 hq2
def zcb (rs:List Rat):Rat:=rs.foldl (λa b=>a+b) 0
theorem zoY (rs:List Rat)(a:Rat):rs.foldl (λa b=>a+b) a=a+zcb rs:=by
 unfold zcb
 induction rs generalizing a with
 |nil=>exact(Rat.add_zero a).symm
 |cons r t ih=>
   rw [List.foldl_cons,List.foldl_cons,ih (a+r),ih (0+r),Rat.zero_add,Rat.add_assoc]
theorem zjX:zcb []=0:=rfl
theorem zeP (r:Rat)(rs:List Rat):zcb (r::rs)=r+zcb rs:=by
 show(r::rs).foldl (λa b=>a+b) 0=_
 rw [List.foldl_cons,zoY,Rat.zero_add]
def zdY (xs ys:List Rat):Rat:=zcb (List.zipWith (λa b=>a*b) xs ys)
theorem zjv (x:Rat)(xs:List Rat)(y:Rat)(ys:List Rat):zdY (x::xs) (y::ys)=x*y+zdY xs ys:=by
 show zcb (List.zipWith _ (x::xs) (y::ys))=_
 rw [List.zipWith_cons_cons,zeP]
 rfl
def addL (xs ys:List Rat):List Rat:=List.zipWith (λa b=>a+b) xs ys
def zgW (xs ys:List Rat):List Rat:=List.zipWith (λa b=>a*b) xs ys
theorem zle {xs ys:List Rat}{f:Rat->Rat->Rat}{n:Nat}(h:xs.length=n)(k:ys.length=n):(List.zipWith f xs ys).length=n:=by rw [List.length_zipWith,h,k,Nat.min_self]
def zeE:List Rat->List Rat->Int
 |[],[]=>0
 |[],_::_=> -1
 |_::_,[]=>1
 |x::xs,y::ys=>if x=y then zeE xs ys else zfU x y
theorem cmpQ_ne {x y:Rat}(h:x≠y):zfU x y≠0:=λe=>h ((cmpQ_eq x y).1 e)
theorem zkr:∀(xs ys:List Rat),zeE xs ys=0↔xs=ys
 |[],[]=>by simp [zeE]
 |[],_::_=>by simp [zeE]
 |_::_,[]=>by simp [zeE]
 |x::xs,y::ys=>by
   unfold zeE
   by_cases h:x=y
   ·rw [if_pos h,zkr xs ys,h];simp
   ·rw [if_neg h]
    constructor
    ·intro e;exact absurd e (cmpQ_ne h)
    ·intro e;injection e with e1 e2;exact absurd e1 h
theorem zoP {x y:Rat}{xs ys:List Rat}(h:x=y):zeE (x::xs) (y::ys)=zeE xs ys:=by
 show(if x=y then zeE xs ys else zfU x y)=_
 exact if_pos h
theorem zmN {x y:Rat}{xs ys:List Rat}(h:x≠y):zeE (x::xs) (y::ys)=zfU x y:=by
 show(if x=y then zeE xs ys else zfU x y)=_
 exact if_neg h
theorem zdJ {xs:List Rat}{k:Nat}(h:k<xs.length):xs.drop k=xs.getD k 0::xs.drop (k+1):=by
 rw [List.drop_eq_getElem_cons h,List.getD_eq_getElem?_getD,List.getElem?_eq_getElem h];rfl
theorem zhS {xs ys:List Rat}{k:Nat}(hx:k<xs.length)(hy:k<ys.length)(h:xs.getD k 0=ys.getD k 0):zeE (xs.drop k) (ys.drop k)=zeE (xs.drop (k+1)) (ys.drop (k+1)):=by
 rw [zdJ hx,zdJ hy,zoP h]
theorem zhy {xs ys:List Rat}{k:Nat}(hx:k<xs.length)(hy:k<ys.length)(h:xs.getD k 0≠ys.getD k 0):zeE (xs.drop k) (ys.drop k)=zfU (xs.getD k 0) (ys.getD k 0):=by
 rw [zdJ hx,zdJ hy,zmN h]
def cmpN (a b:Nat):Int:=if a<b then -1 else if a=b then 0 else 1
theorem cmpV_end {xs ys:List Rat}{k:Nat}(hk:k=min xs.length ys.length):zeE (xs.drop k) (ys.drop k)=cmpN xs.length ys.length:=by
 unfold cmpN
 by_cases h1:xs.length<ys.length
 ·rw [if_pos h1,List.drop_of_length_le (by omega),zdJ (xs:=ys) (by omega)];rfl
 ·rw [if_neg h1]
  by_cases h2:xs.length=ys.length
  ·rw [if_pos h2,List.drop_of_length_le (by omega),List.drop_of_length_le (by omega)];rfl
  ·rw [if_neg h2,List.drop_of_length_le (l:=ys) (by omega),zdJ (xs:=xs) (by omega)];rfl
def zay (K:Nat)(xs:List Rat):Prop:=∀x ∈ xs,SzQ K x
theorem zay.at_ {K:Nat}{xs:List Rat}(h:zay K xs){k:Nat}(hk:k<xs.length):SzQ K (xs.getD k 0):=by
 rw [List.getD_eq_getElem?_getD,List.getElem?_eq_getElem hk]
 exact h _ (List.getElem_mem hk)
theorem zay.up {K K':Nat}{xs:List Rat}(h:zay K xs)(e:K<=K'):zay K' xs:=λx hx=>(h x hx).up e
theorem zay.zip {K K' L:Nat}{f:Rat->Rat->Rat}(hf:∀x y,SzQ K x->SzQ K' y->SzQ L (f x y)):∀{xs ys:List Rat},zay K xs->zay K' ys->zay L (List.zipWith f xs ys)
 |[],_,_,_=>λx hx=>by cases hx
 |_::_,[],_,_=>λx hx=>by cases hx
 |x::xs,y::ys,h,k=>λz hz=>by
   rw [List.zipWith_cons_cons] at hz
   rcases List.mem_cons.1 hz with rfl|hz
   ·exact hf x y (h x List.mem_cons_self) (k y List.mem_cons_self)
   ·exact zay.zip hf (λa ha=>h a (List.mem_cons_of_mem _ ha)) (λa ha=>k a (List.mem_cons_of_mem _ ha)) z hz
theorem zay.add {K K':Nat}{xs ys:List Rat}(h:zay K xs)(k:zay K' ys):zay (K+K'+1) (addL xs ys):=zay.zip (λ_ _=>SzQ.add) h k
theorem zay.mul {K K':Nat}{xs ys:List Rat}(h:zay K xs)(k:zay K' ys):zay (K+K') (zgW xs ys):=zay.zip (λ_ _=>SzQ.mul) h k
theorem znM {K:Nat}:∀{xs:List Rat},zay K xs->SzQ (1+xs.length*(K+1)) (zcb xs)
 |[],_=>by rw [List.length_nil,Nat.zero_mul];exact SzQ.zero
 |x::xs,h=>by
   rw [zeP]
   exact((h x List.mem_cons_self).add (znM λa ha=>h a (List.mem_cons_of_mem _ ha))).up (by rw [List.length_cons,Nat.succ_mul];omega)
theorem zoE {K n:Nat}{xs:List Rat}(h:zay K xs)(hl:xs.length=n)(k:Nat)(hk:k<=n):SzQ (1+n*(K+1)) (zcb (xs.take k)):=by
 have h1:=znM (xs:=xs.take k) (K:=K) (λa ha=>h a (List.mem_of_mem_take ha))
 refine h1.up ?_
 rw [List.length_take]
 have:min k xs.length*(K+1)<=n*(K+1):=Nat.mul_le_mul_right _ (by omega)
 omega
theorem dot_sz {K K' n:Nat}{xs ys:List Rat}(hx:xs.length=n)(hy:ys.length=n)(h:zay K xs)(k:zay K' ys):SzQ (1+n*(K+K'+1)) (zdY xs ys):=by
 have:=znM (zay.mul h k)
 rw [show(zgW xs ys).length=n from zle hx hy] at this
 exact this
set_option maxRecDepth 100000
theorem zgX {x y n m:Nat}(hx:(dg 65536 x).length<=n)(hy:(dg 65536 y).length<=m):(dg 65536 (x*y)).length<=n+m:=by
 refine zaJ (by decide) _ _ ?_
 rw [Nat.pow_add]
 exact Nat.mul_lt_mul'' (Nat.lt_of_lt_of_le (zaS (by decide) x) (Nat.pow_le_pow_right (by decide) hx)) (Nat.lt_of_lt_of_le (zaS (by decide) y) (Nat.pow_le_pow_right (by decide) hy))
theorem znk (x y j:Nat):x*(y / 65536^(j+1))*2^16+(x*(y / 65536^j%65536)+0)=x*(y / 65536^j):=by
 conv=>rhs;rw [zfW 65536 y j]
 rw [Nat.mul_add,show(2:Nat)^16=65536 from by decide,Nat.mul_assoc,Nat.mul_comm (y / 65536^(j+1)) 65536]
 exact congrArg _ (Nat.add_zero _)
theorem zgS (w:World):zak w 0 none 0 0:=⟨zau.none_,Nat.le_refl _,by omega⟩
theorem ziN (x y:Nat)(A D:oA9)(n m c d:Nat)(w:World)(hA:zak w x A n c)(hD:zak w y D m d)(hn:n<=68719476736)(hm:m<=68719476736):
  Calls Tryz.prog 144 #[.slice A n c,.slice D m d] w λe w'=>∃(A':oA9) (n' c':Nat),e=.returned (.slice A' n' c')/\zak w' (x*y) A' n' c'/\Below w.heap.size w w':=by
 have hlx:=lh9 hA.len
 have hly:=lh9 hD.len
 have HA:=lh9 (λw' (hb:Below w.heap.size w w')=>hA.below hb)
 have hR:=hD.1
 have H0:Hid (x*(y / 65536^m)=0):=by
  show _=_
  rw [Nat.div_eq_of_lt (by rw [hly.out];exact zaS (by decide) y),Nat.mul_zero]
 clear hA hD
 go_enter Tryz.func144,Tryz.ntmps144
 go_wp2_with fail
 go_loopg [5,6] (m+1) (λg o ix wr=>∃(k:Nat) (A':oA9) (n' c':Nat),k<=m/\k<g/\ix=.int .i64 ((k:Int) - 1)/\o=.slice A' n' c'/\Hid (zak wr (x*(y / 65536^k)) A' n' c')/\Below w.heap.size w wr)
 case atStart=>exact⟨m,none,0,0,Nat.le_refl _,by omega,rfl,rfl,by show zak _ _ _ _ _;rw [H0.out];exact zgS _,Below.refl _ _⟩
 case round=>
  obtain⟨k,A',n',c',hk,hg,rfl,rfl,hO,hB⟩:=hrel
  by_cases hk0:k=0
  ·subst hk0
   have hO2:=hO.out
   rw [Nat.pow_zero,Nat.div_one] at hO2
   have HG:=lh9 hO2
   clear hO hO2
   go_wp2
   go_ret
   exact⟨_,_,_,rfl,HG.out,hB⟩
  ·obtain⟨j,rfl⟩:∃j,k=j+1:=⟨k - 1,by omega⟩
   obtain⟨ad,rfl,hadb,hc0⟩:=zbr (hR.below hB) (k:=j) (by omega)
   rw [zfe] at hc0
   have hlt:y / 65536^j%65536<65536:=Nat.mod_lt _ (by decide)
   have hst:=znk x y j
   have hnl:n'<=n+m:=by
    rw [hO.out.len]
    exact zgX (by have:=hlx.out;omega) (by have:=hly.out;have:=zbd (b:=65536) (by decide) (Nat.div_le_self y (65536^(j+1)));omega)
   have hzl:∀{w':World} {A'':oA9} {n'' c'':Nat},zak w' (x*(y / 65536^(j+1))*2^16) A'' n'' c''->n''<=n+m+1:=λh=>by
    rw [h.len]
    have h2:=zgX (x:=x) (y:=y / 65536^(j+1)*2^16) (n:=n) (m:=m) (by have:=hlx.out;omega) (by
     have h3:y / 65536^(j+1)*2^16<=y:=by
      rw [show(2:Nat)^16=65536 from by decide]
      have h4:=Nat.div_mul_le_self y (65536^(j+1))
      have h5:65536<=65536^(j+1):=by rw [Nat.pow_succ];exact Nat.le_mul_of_pos_left _ (Nat.pow_pos (by decide))
      exact Nat.le_trans (Nat.mul_le_mul_left _ h5) h4
     have:=zbd (b:=65536) (by decide) h3
     have:=hly.out;omega)
    rw [Nat.mul_assoc]
    omega
   obtain⟨dd,hdd⟩:∃v,y / 65536^j%65536=v:=⟨_,rfl⟩
   rw [hdd] at hc0 hlt hst
   have S1:=lh9 (λw' (h:Below wr.heap.size wr w')=>show Calls Tryz.prog 159 #[.slice A' n' c',.int .i64 16] w' (zbs w' (x*(y / 65536^(j+1))*2^16)) from ziL (x*(y / 65536^(j+1))) 16 A' n' c' w' (hO.out.below h) (by omega) (by omega))
   have S2:=lh9 (λw' (h:Below wr.heap.size wr w')=>show Calls Tryz.prog 160 #[.slice A n c,.int .i64 dd,.int .i64 0] w' (zbs w' (x*dd+0)) from zeM x dd 0 A n c w' ((HA.out _ hB).below h) (by omega) hlt (by decide))
   have S3:=(λw' (h:Below wr.heap.size wr w') A1 n1 c1 A2 n2 c2 (h1:zak w' (x*(y / 65536^(j+1))*2^16) A1 n1 c1) (h2:zak w' (x*dd+0) A2 n2 c2)=>ziJ _ _ A1 A2 n1 n2 c1 c2 w' h1 h2 (by have:=hzl h1;omega) (by rw [h2.len,Nat.add_zero];have:=zgX (x:=x) (y:=dd) (n:=n) (m:=1) (by have:=hlx.out;omega) (zaJ (by decide) _ _ (by simpa using hlt));omega))
   rw [hst] at S3
   have hS3:=lh9 S3
   clear S3 hst hdd hlt hzl
   obtain⟨s1,s2⟩:(0:Int)<=(j:Int)/\(j:Int)<(m:Int):=by omega
   go_wp2_with fail
   have hb0:Below wr.heap.size wr wr.drew:=(Below.refl _ wr).drew
   have hc1:wr.drew.cell? (ad.add j)=some (.int .i64 dd):=hc0
   go_region_held3 (fun w' => Below wr.heap.size wr w' ∧ w'.cell? (ad.add j) = some (.int .i64 dd))
    (first|(exact⟨hb0,hc1⟩)|(go_split_ands;refine⟨?_,?_⟩;all_goals (first|with_reducible assumption|exact zac (by with_reducible assumption) hb|exact zae hb (by with_reducible assumption))))
    (first
      |(go_at_call 159;(with_reducible refine(S1.out _ (by first|with_reducible assumption|exact And.left (by with_reducible assumption))).mono ?_);intro e w' hg;obtain⟨A8,n8,c8,rfl,hh8,hb⟩:=hg.elim;clear hg)
      |(go_at_call 160;(with_reducible refine(S2.out _ (by first|with_reducible assumption|exact And.left (by with_reducible assumption))).mono ?_);intro e w' hg;obtain⟨A9,n9,c9,rfl,hh9,hb⟩:=hg.elim;have hh8:=hh8.below hb;clear hg)
      |(go_at_call 162;(with_reducible refine(hS3.out _ (by first|with_reducible assumption|exact And.left (by with_reducible assumption)) _ _ _ _ _ _ hh8 hh9).mono ?_);intro e w' hg;obtain⟨A7,n7,c7,rfl,hh7,hb⟩:=hg.elim;clear hg))
   rename_i hH
   obtain⟨hb6,_⟩:=hH
   have hB2:=zac hB hb6
   have HN:=lh9 hh7
   clear hb hb0 hb6 hh7 hh8 hh9 hc1
   go_wp2
   go_roundg (j+1)
   case measure=>omega
   case rel=>exact⟨j,_,_,_,by omega,by omega,by go_num,rfl,HN,hB2⟩
def GivesH (w:World)(x:Nat)(e:Ending)(w':World):Prop:=∃(A:oA9) (n c:Nat),e=.returned (.slice A n c)/\zak w' x A n c/\Below w.heap.size w w'
theorem zpe (w:World)(g:Nat)(h:Blk w g 3 #[.int .i64 1]):zak w 1 (some ⟨g,0,none⟩) 1 1:=by
 have e:dg 65536 1=[1]:=by
  rw [zea (by decide) (by decide)]
  rfl
 refine⟨?_,Nat.le_refl _,by omega⟩
 rw [e]
 refine⟨rfl,λ_=>⟨_,rfl,h.lt,λj u hu=>?_⟩⟩
 match j,hu with
 |0,hu=>simp [zaw] at hu;subst hu;exact h.cell 0
def zjp (w:World)(q r:Nat)(e:Ending)(w':World):Prop:=∃(A:oA9) (n c:Nat) (B:oA9) (m d:Nat),e=.returned (.tuple #[.slice A n c,.slice B m d])/\zak w' q A n c/\zak w' r B m d/\Below w.heap.size w w'
theorem div_no {m y b:Nat}(hb:b<2)(h:m%y*2+b<y):(m+m+b) / y=m / y*2+0/\(m+m+b)%y=m%y*2+b:=by
 have h1:=Nat.div_add_mod m y
 have e:m+m+b=y*(m / y*2)+(m%y*2+b):=by rw [Nat.mul_comm (m / y) 2,Nat.mul_left_comm];omega
 rw [e,Nat.mul_add_div (by omega),Nat.mul_add_mod,Nat.div_eq_of_lt h,Nat.mod_eq_of_lt h]
 exact⟨rfl,rfl⟩
theorem div_yes {m y b:Nat}(hy:y≠0)(hb:b<2)(h:y<=m%y*2+b):(m+m+b) / y=m / y*2+0+1/\(m+m+b)%y=m%y*2+b - y:=by
 have h1:=Nat.div_add_mod m y
 have h2:=Nat.mod_lt m (y:=y) (by omega)
 have h3:m%y*2+b - y<y:=by omega
 have e:m+m+b=y*(m / y*2+1)+(m%y*2+b - y):=by rw [Nat.mul_add,Nat.mul_comm (m / y) 2,Nat.mul_left_comm];omega
 rw [e,Nat.mul_add_div (by omega),Nat.mul_add_mod,Nat.div_eq_of_lt h3,Nat.mod_eq_of_lt h3]
 exact⟨rfl,rfl⟩
theorem zln (x y:Nat):decide (0<=zbi x y)=decide (y<=x):=by
 rw [Bool.eq_iff_iff]
 simp only [decide_eq_true_eq]
 unfold zbi
 split
 ·omega
 ·split<;>omega
theorem zht (x y:Nat)(A D:oA9)(n m c d:Nat)(w:World)(hA:zak w x A n c)(hD:zak w y D m d)(hn:n<=17179869184)(hm:m<=17179869184)(hy:y≠0):
  Calls Tryz.prog 140 #[.slice A n c,.slice D m d] w (zjp w (x / y) (x%y)):=by
 have hlx:=lh9 hA.len
 have hly:=lh9 hD.len
 have HA:=lh9 (λw' (hb:Below w.heap.size w w')=>hA.below hb)
 have HD:=lh9 (λw' (hb:Below w.heap.size w w')=>hD.below hb)
 have RB:=zjV x A n c w hA (by omega)
 have hbl:bitLen x<=16*n:=by
  have h1:=zaS (b:=65536) (by decide) x
  rw [<-hA.len,show(65536:Nat)=2^16 from rfl,<-Nat.pow_mul] at h1
  exact zdf _ _ h1
 have h0:x / 2^bitLen x=0:=Nat.div_eq_of_lt (lt_bits x)
 obtain⟨l,hl⟩:∃l,bitLen x=l:=⟨_,rfl⟩
 rw [hl] at RB hbl h0
 have HRB:=lh9 RB
 have H0:=lh9 h0
 clear hA hD RB hl h0
 go_enter Tryz.func140,Tryz.ntmps140
 go_wp2_with fail
 refine HRB.out.mono ?_
 rintro e w' ⟨rfl,rfl⟩
 go_wp2_with fail
 go_loopg [6,7,8] (l+1) (λg qs rs ix wr=>∃(j:Nat) (A1:oA9) (n1 c1:Nat) (A2:oA9) (n2 c2:Nat),j<=l/\j<g/\ix=.int .i64 ((j:Int) - 1)/\qs=.slice A1 n1 c1/\rs=.slice A2 n2 c2/\Hid (zak wr (x / 2^j / y) A1 n1 c1)/\Hid (zak wr (x / 2^j%y) A2 n2 c2)/\Below w.heap.size w wr)
 case atStart=>
  refine⟨l,none,0,0,none,0,0,Nat.le_refl _,by omega,rfl,rfl,rfl,?_,?_,Below.refl _ _⟩
  ·show zak _ _ _ _ _;rw [H0.out,Nat.zero_div];exact zgS _
  ·show zak _ _ _ _ _;rw [H0.out,Nat.zero_mod];exact zgS _
 case round=>
  obtain⟨j,A1,n1,c1,A2,n2,c2,hjl,hg,rfl,rfl,rfl,hq,hr,hB⟩:=hrel
  by_cases hj:j=0
  ·subst hj
   have e1:=hq.out
   have e2:=hr.out
   rw [Nat.pow_zero,Nat.div_one] at e1 e2
   have HG:Hid (zjp w (x / y) (x%y) (.returned (.tuple #[.slice A1 n1 c1,.slice A2 n2 c2])) wr):=⟨_,_,_,_,_,_,rfl,e1,e2,hB⟩
   clear hq hr e1 e2
   go_wp2
   go_ret2
   exact HG.out
  ·obtain⟨i,rfl⟩:∃i,j=i+1:=⟨j - 1,by omega⟩
   have hqn:n1<=n:=by
    rw [hq.out.len,hlx.out]
    exact zbd (by decide) (Nat.le_trans (Nat.div_le_self _ _) (Nat.div_le_self _ _))
   have hrn:n2<=m:=by
    rw [hr.out.len,hly.out]
    exact zbd (by decide) (Nat.le_of_lt (Nat.mod_lt _ (by omega)))
   have hbit:x / 2^i%2<2:=Nat.mod_lt _ (by decide)
   have hst:=shr_step x i
   have WB:=ref2_bit x i A n c wr (HA.out _ hB) (by omega) (by omega)
   obtain⟨M,hM⟩:∃M,x / 2^(i+1)=M:=⟨_,rfl⟩
   obtain⟨b,hb⟩:∃b,x / 2^i%2=b:=⟨_,rfl⟩
   rw [hM] at hq hr hst
   rw [hb] at hst hbit WB
   have S1:=zeM (M%y) 2 b A2 n2 c2 wr hr.out (by omega) (by decide) (by omega)
   have HWB:=lh9 WB
   have HS1:=lh9 S1
   have HST:=lh9 hst
   have hr1:(dg 65536 (M%y*2+b)).length<=n2+1:=by
    refine zaJ (by decide) _ _ ?_
    have h1:=zaS (b:=65536) (by decide) (M%y)
    rw [<-hr.out.len] at h1
    rw [Nat.pow_succ];omega
   have hq1:(dg 65536 (M / y*2+0)).length<=n1+1:=by
    refine zaJ (by decide) _ _ ?_
    have h1:=zaS (b:=65536) (by decide) (M / y)
    rw [<-hq.out.len] at h1
    rw [Nat.pow_succ];omega
   clear WB S1 hM hb hr hst
   go_wp2_with fail
   refine HWB.out.mono ?_
   rintro e w' ⟨rfl,rfl⟩
   go_wp2_with fail
   refine HS1.out.mono ?_
   intro e w1 hg1
   obtain⟨A3,n3,c3,rfl,hh3,hb1⟩:=hg1.elim
   have hB1:=zac hB hb1
   have hn3:n3<=m+1:=by rw [hh3.len];omega
   have HS2:=lh9 (zeM (M / y) 2 0 A1 n1 c1 w1 (hq.out.below hb1) (by omega) (by decide) (by decide))
   have H3:=lh9 hh3
   clear hg1 hh3 hb1 hq HS1
   go_wp2_with fail
   refine HS2.out.mono ?_
   intro e w2 hg2
   obtain⟨A4,n4,c4,rfl,hh4,hb2⟩:=hg2.elim
   have hB2:=zac hB1 hb2
   have hn4:n4<=n+1:=by rw [hh4.len];omega
   have H3:=lh9 (H3.out.below hb2)
   have H4:=lh9 hh4
   have HCM:=lh9 (zfq (M%y*2+b) y A3 D n3 m c3 d w2 H3.out (HD.out _ hB2) (by omega) (by omega))
   clear hg2 hh4 hb2 HS2
   go_wp2_with fail
   refine HCM.out.mono ?_
   rintro e w3 ⟨rfl,q,rfl⟩
   clear HCM
   by_cases hlt:M%y*2+b<y
   ·have hd:decide (zbi (M%y*2+b) y>=0)=false:=by
     show decide (0<=zbi _ _)=false
     rw [zln];simp;omega
    have hd2:decide (0<=zbi (M%y*2+b) y)=false:=hd
    obtain⟨e1,e2⟩:=div_no hbit hlt
    rw [<-HST.out] at e1 e2
    have HQ:Hid (zak (w2.drewN q) (x / 2^i / y) A4 n4 c4):=by show zak _ _ _ _ _;rw [e1];exact H4.out
    have HR:Hid (zak (w2.drewN q) (x / 2^i%y) A3 n3 c3):=by show zak _ _ _ _ _;rw [e2];exact H3.out
    have hB3:=zaL hB2 q
    obtain⟨z,hz⟩:∃z,zbi (M%y*2+b) y=z:=⟨_,rfl⟩
    rw [hz] at hd hd2⊢
    clear e1 e2 hz hlt
    go_wp2
    go_roundg (i+1)
    case measure=>omega
    case rel=>exact⟨i,_,_,_,_,_,_,by omega,by omega,by go_num,rfl,rfl,HQ,HR,hB3⟩
   ·have hd:decide (zbi (M%y*2+b) y>=0)=true:=by
     show decide (0<=zbi _ _)=true
     rw [zln];simp;omega
    have hd2:decide (0<=zbi (M%y*2+b) y)=true:=hd
    obtain⟨e1,e2⟩:=div_yes hy hbit (by omega:y<=M%y*2+b)
    rw [<-HST.out] at e1 e2
    have HS3:=lh9 (zda (M%y*2+b) y (by omega) A3 D n3 m c3 d (w2.drewN q) H3.out (HD.out _ (zaL hB2 q)) (by omega) (by omega))
    have E1:=lh9 e1
    have E2:=lh9 e2
    have hB3:=zaL hB2 q
    obtain⟨z,hz⟩:∃z,zbi (M%y*2+b) y=z:=⟨_,rfl⟩
    rw [hz] at hd hd2⊢
    clear e1 e2 hz hlt
    go_wp2_with fail
    refine HS3.out.mono ?_
    intro e w4 hg3
    obtain⟨A5,n5,c5,rfl,hh5,hb3⟩:=hg3.elim
    have hB4:=zac hB3 hb3
    have H4b:zak (w2.drewN q) (M / y*2+0) A4 n4 c4:=H4.out
    have st:=zbk w4 (.cells #[.int .i64 1] 3)
    have h1:=zpe _ _ (Blk.new w4 3 #[.int .i64 1])
    have HS4:=lh9 (ziJ (M / y*2+0) 1 A4 (some ⟨w4.heap.size,0,none⟩) n4 1 c4 1 _ ((H4b.below hb3).below st) h1 (by omega) (by omega))
    have H5:=lh9 (hh5.below st)
    have hB5:=zac hB4 st
    clear hg3 hh5 hb3 HS3 H4b h1 st
    go_wp2_with fail
    refine HS4.out.mono ?_
    intro e w5 hg4
    obtain⟨A6,n6,c6,rfl,hh6,hb4⟩:=hg4.elim
    have hB6:=zac hB5 hb4
    have HQ:Hid (zak w5 (x / 2^i / y) A6 n6 c6):=by show zak _ _ _ _ _;rw [E1.out];exact hh6
    have HR:Hid (zak w5 (x / 2^i%y) A5 n5 c5):=by show zak _ _ _ _ _;rw [E2.out];exact H5.out.below hb4
    clear hg4 hh6 hb4 HS4
    go_wp2
    go_roundg (i+1)
    case measure=>omega
    case rel=>exact⟨i,_,_,_,_,_,_,by omega,by omega,by go_num,rfl,rfl,HQ,HR,hB6⟩
set_option linter.unusedSimpArgs false
theorem zoi {T:World->Prop}{M:Nat->Prop}(hTb:∀w w',T w->Below w.heap.size w w'->T w')(IC:IntC T)(QC:RatC T M)(p q:Int)(r:Rat)(K:Nat)(bx:Bool)(Bx:oA9)(mx dx:Nat)(Ex:oA9)(ux vx:Nat)(w:World)(hK:K<=16777216)(hz:SzQ K r)(h:zan w r bx Bx mx dx Ex ux vx)(hT:T w)(hp1: -9223372036854775808<=p)(hp2:p<=9223372036854775807)(hq1: -9223372036854775808<=q)(hq2:q<=9223372036854775807)(hq0:q≠0)(he:r=Rat.divInt p q):
  Calls Tryz.prog 18 #[.agg #[.bool bx,.slice Bx mx dx,.slice Ex ux vx],.int .i64 p,.int .i64 q] w λe w'=>e=.returned (.bool true)/\Below w.heap.size w w':=by
 have HIC:=lh9 IC
 have HQC:=lh9 QC
 have HT:=lh9 (λw' (hb:Below w.heap.size w w')=>hTb w w' hT hb)
 have HE:=lh9 he
 have HZx:=lh9 hz
 have HNx:=lh9 h
 clear IC QC hT he hz h
 go_enter Tryz.func18,Tryz.ntmps18
 have hB:=Below.refl w.heap.size w
 obtain⟨bx1,bx2,bz⟩:=zaD w 48 #[.bool bx,.slice Bx mx dx,.slice Ex ux vx]
 have hB:=zac hB bx1
 have HNx:=lh9 (HNx.out.below bx1)
 obtain⟨g1,e1,i1⟩:=bx2.c3
 clear bx1 bx2 bz
 go_wp2_with fail
 generalize w.alloc (.cells #[.bool bx,.slice Bx mx dx,.slice Ex ux vx] 48)=W1 at*
 have HZ2:Hid (SzQ (1) (Rat.divInt p q)):=SzQ.made (K:=1) (by show Int.natAbs p<18446744073709551616^1;have e1: -9223372036854775808<=p:=hp1;have e2:p<=9223372036854775807:=hp2;omega) (by show Int.natAbs q<18446744073709551616^1;have e1: -9223372036854775808<=q:=hq1;have e2:q<=9223372036854775807:=hq2;omega) (by decide)
 (with_reducible refine(HQC.out.of p q _ (HT.out _ hB) hp1 hp2 hq1 hq2 hq0).mono ?_)
 rintro e wc2 ⟨b2,B2,m2,d2,E2,u2,v2,rfl,hw2,hb⟩
 have hB:=zac hB hb
 have HNx:=lh9 (HNx.out.below hb)
 have g1:=zae hb g1
 have e1:=zae hb e1
 have i1:=zae hb i1
 have HN2:=lh9 hw2
 clear hb hw2
 obtain⟨bx1,bx2,bz⟩:=zaD wc2 48 #[.bool b2,.slice B2 m2 d2,.slice E2 u2 v2]
 have hB:=zac hB bx1
 have HNx:=lh9 (HNx.out.below bx1)
 have g1:=zae bx1 g1
 have e1:=zae bx1 e1
 have i1:=zae bx1 i1
 have HN2:=lh9 (HN2.out.below bx1)
 obtain⟨g3,e3,i3⟩:=bx2.c3
 clear bx1 bx2 bz
 go_wp2_with fail
 generalize wc2.alloc (.cells #[.bool b2,.slice B2 m2 d2,.slice E2 u2 v2] 48)=W3 at*
 generalize wc2.heap.size=q3 at*
 have C0:=lh9 (λw' (h:Below W3.heap.size W3 w')=>zaA (decide_eq_true HE.out) (HQC.out.same (r) (Rat.divInt p q) bx b2 Bx B2 mx m2 dx d2 Ex E2 ux u2 vx v2 w' (HT.out _ (zac hB h)) (HNx.out.below h) (HN2.out.below h) (szq HZx HNx.out) (szq HZ2 HN2.out)))
 have HZ4:Hid (Sz (K) (r.num).natAbs):=SzQ.num HZx.out
 have C1:=lh9 (λw' (h:Below W3.heap.size W3 w')=>HQC.out.num (r) bx Bx mx dx Ex ux vx w' (HT.out _ (zac hB h)) (HNx.out.below h) (szq HZx HNx.out))
 have HZ5:Hid (Sz (1) ((Rat.divInt p q).num).natAbs):=SzQ.num HZ2.out
 have C2:=lh9 (λw' (h:Below W3.heap.size W3 w')=>HQC.out.num (Rat.divInt p q) b2 B2 m2 d2 E2 u2 v2 w' (HT.out _ (zac hB h)) (HN2.out.below h) (szq HZ2 HN2.out))
 have C3:=lh9 (λw' (h:Below W3.heap.size W3 w') b4 B4 m4 d4 (hw4:zaF w' (r.num) b4 B4 m4 d4) b5 B5 m5 d5 (hw5:zaF w' ((Rat.divInt p q).num) b5 B5 m5 d5)=>icmp_eq (by rw [HE.out]) (HIC.out.cmp (r.num) ((Rat.divInt p q).num) b4 b5 B4 B5 m4 m5 d4 d5 w' (HT.out _ (zac hB h)) hw4 hw5 (by have:=Sz.words HZ4.out hw4.words;omega) (by have:=Sz.words HZ5.out hw5.words;omega)))
 have HZ6:Hid (Sz (K) (r.den)):=SzQ.den HZx.out
 have C4:=lh9 (λw' (h:Below W3.heap.size W3 w')=>HQC.out.den (r) bx Bx mx dx Ex ux vx w' (HT.out _ (zac hB h)) (HNx.out.below h) (szq HZx HNx.out))
 have HZ7:Hid (Sz (1) ((Rat.divInt p q).den)):=SzQ.den HZ2.out
 have C5:=lh9 (λw' (h:Below W3.heap.size W3 w')=>HQC.out.den (Rat.divInt p q) b2 B2 m2 d2 E2 u2 v2 w' (HT.out _ (zac hB h)) (HN2.out.below h) (szq HZ2 HN2.out))
 have C6:=lh9 (λw' (h:Below W3.heap.size W3 w') B6 m6 d6 (hw6:zag w' (r.den) B6 m6 d6) B7 m7 d7 (hw7:zag w' ((Rat.divInt p q).den) B7 m7 d7)=>cmpEq (x:=r.den) (y:=(Rat.divInt p q).den) (by rw [HE.out]) hw6 hw7 (szw HZ6 hw6) (szw HZ7 hw7))
 have hBw:=(Below.refl W3.heap.size W3).drew
 refine rg (csc g1 (csc e1 (csc i1 (csc g3 (csc e3 (csc i3 csn)))))) (λhHeld=>?_)
 refine tk 0 ?_
 refine tk 1 ?_
 refine tk 2 ?_
 refine tk 3 ?_
 refine rc 4 (λK hK=>?_)
 go_simp
 go_at_call 43;(with_reducible refine(C0.out _ hBw).mono ?_);rintro e wa4 ⟨rfl,hb⟩;have hBw:=zac hBw hb;refine hK.out _ _ (Cs.below hHeld hb) (λhHeld=>?_);clear hK K hb
 try simp only [sb9]
 refine tk 5 ?_
 refine tk 6 ?_
 refine tk 7 ?_
 refine tk 9 ?_
 refine rc 8 (λK hK=>?_)
 go_simp
 go_at_call 59;(with_reducible refine(C1.out _ hBw).mono ?_);rintro e wa5 ⟨b4,B4,m4,d4,rfl,hw4,hb⟩;have hBw:=zac hBw hb;refine hK.out _ _ (Cs.below hHeld hb) (λhHeld=>?_);clear hK K hb
 try simp only [sb9]
 refine rc 10 (λK hK=>?_)
 go_simp
 go_at_call 59;(with_reducible refine(C2.out _ hBw).mono ?_);rintro e wa6 ⟨b5,B5,m5,d5,rfl,hw5,hb⟩;have hBw:=zac hBw hb;have hw4:=hw4.below hb;refine hK.out _ _ (Cs.below hHeld hb) (λhHeld=>?_);clear hK K hb
 try simp only [sb9]
 refine rc 11 (λK hK=>?_)
 go_simp
 go_at_call 58;(with_reducible refine(C3.out _ hBw _ _ _ _ hw4 _ _ _ _ hw5).mono ?_);rintro e wa7 ⟨rfl,hb⟩;have hBw:=zac hBw hb;have hw4:=hw4.below hb;have hw5:=hw5.below hb;refine hK.out _ _ (Cs.below hHeld hb) (λhHeld=>?_);clear hK K hb
 try simp only [sb9]
 refine tk 12 ?_
 refine tk 13 ?_
 refine tk 14 ?_
 refine tk 15 ?_
 refine tk 17 ?_
 refine rc 16 (λK hK=>?_)
 go_simp
 go_at_call 61;(with_reducible refine(C4.out _ hBw).mono ?_);rintro e wa8 ⟨B6,m6,d6,rfl,hw6,hb⟩;have hBw:=zac hBw hb;have hw4:=hw4.below hb;have hw5:=hw5.below hb;refine hK.out _ _ (Cs.below hHeld hb) (λhHeld=>?_);clear hK K hb
 try simp only [sb9]
 refine rc 18 (λK hK=>?_)
 go_simp
 go_at_call 61;(with_reducible refine(C5.out _ hBw).mono ?_);rintro e wa9 ⟨B7,m7,d7,rfl,hw7,hb⟩;have hBw:=zac hBw hb;have hw4:=hw4.below hb;have hw5:=hw5.below hb;have hw6:=hw6.below hb;refine hK.out _ _ (Cs.below hHeld hb) (λhHeld=>?_);clear hK K hb
 try simp only [sb9]
 refine rc 19 (λK hK=>?_)
 go_simp
 go_at_call 60;(with_reducible refine(C6.out _ hBw _ _ _ hw6 _ _ _ hw7).mono ?_);rintro e wa10 ⟨rfl,hb⟩;have hBw:=zac hBw hb;have hw4:=hw4.below hb;have hw5:=hw5.below hb;have hw6:=hw6.below hb;have hw7:=hw7.below hb;refine hK.out _ _ (Cs.below hHeld hb) (λhHeld=>?_);clear hK K hb
 try simp only [sb9]
 refine tk 20 ?_
 refine tk 21 ?_
 refine tk 22 ?_
 refine rdn ?_
 have hB:=zac hB hBw
 have g1:=zae hBw g1
 have e1:=zae hBw e1
 have i1:=zae hBw i1
 have g3:=zae hBw g3
 have e3:=zae hBw e3
 have i3:=zae hBw i3
 clear hBw hHeld hw4 hw5 hw6 hw7 C0 C1 C2 C3 C4 C5 C6
 go_wp2
 go_ret
 exact⟨by first|rfl|simp,hB⟩
