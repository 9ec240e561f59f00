/- What this claim leans on. -/
import Derived.Test.YtghpdeciaaagnaaGreatDoorQP8C
import Derived.Deep.Matrix
import Derived.Deep.Slices
import Derived.Laws.AppendOwn
namespace Go.Proofs.YtghpdeciaaagnaaGreatDoor
open Go Go.RowKit Go.Proofs.Tryz
open Go.ChangeShapes Go.WideShapes Go.ChangeAt Go.Deep
set_option maxHeartbeats 16000000
set_option linter.unusedVariables false
namespace UA
set_option maxHeartbeats 16000000
theorem mem_le {H:Type}{d:DataW H}{l:List (DataW H)}(h:d ∈ l):Rows.uptoBulk d<=Rows.uptoBulkAll l:=by
 induction l with
 |nil=>cases h
 |cons x r ih=>
   simp only [Rows.uptoBulkAll];rcases List.mem_cons.1 h with rfl|h
   ·omega
   ·have:=ih h;omega
end UA
open Go Go.RowKit Go.Proofs.Tryz
set_option maxHeartbeats 16000000
set_option linter.unusedVariables false
def zcU (w:World)(q r:Nat)(b:Bool)(e:Ending)(w':World):Prop:=∃(A:oA9) (n c:Nat) (B:oA9) (m d:Nat),e=.returned (.tuple #[.agg #[.slice A n c],.agg #[.slice B m d],.bool b])/\zad w' q A n c/\zad w' r B m d/\Below w.heap.size w w'
def zfd (w:World)(x:Nat)(b:Bool)(e:Ending)(w':World):Prop:=∃(A:oA9) (n c:Nat),e=.returned (.tuple #[.agg #[.slice A n c],.bool b])/\zad w' x A n c/\Below w.heap.size w w'
def zhb (w:World)(q x:Nat)(b:Bool)(e:Ending)(w':World):Prop:=∃(A:oA9) (n c:Nat),e=.returned (.tuple #[.agg #[.slice A n c],.int .u64 (x:Int),.bool b])/\zad w' q A n c/\Below w.heap.size w w'
structure QuotC:Prop where
 divMod:∀(x y:Nat) (A D:oA9) (n m c d:Nat) (w:World),zad w x A n c->zad w y D m d->n<=1073741824->m<=1073741824->y≠0->Calls prog 200 #[.agg #[.slice A n c],.agg #[.slice D m d]] w (zcU w (x / y) (x%y) true)
 divModNo:∀(x y:Nat) (A D:oA9) (n m c d:Nat) (w:World),zad w x A n c->zad w y D m d->n<=1073741824->m<=1073741824->y=0->Calls prog 200 #[.agg #[.slice A n c],.agg #[.slice D m d]] w (zcU w 0 0 false)
 div:∀(x y:Nat) (A D:oA9) (n m c d:Nat) (w:World),zad w x A n c->zad w y D m d->n<=1073741824->m<=1073741824->y≠0->Calls prog 160 #[.agg #[.slice A n c],.agg #[.slice D m d]] w (zfd w (x / y) true)
 mod:∀(x y:Nat) (A D:oA9) (n m c d:Nat) (w:World),zad w x A n c->zad w y D m d->n<=1073741824->m<=1073741824->y≠0->Calls prog 211 #[.agg #[.slice A n c],.agg #[.slice D m d]] w (zfd w (x%y) true)
 byWord:∀(x a:Nat) (A:oA9) (n c:Nat) (w:World),zad w x A n c->n<=1073741824->a<18446744073709551616->a≠0->Calls prog 215 #[.agg #[.slice A n c],.int .u64 a] w (zhb w (x / a) (x%a) true)
 byWordNo:∀(x:Nat) (A:oA9) (n c:Nat) (w:World),zad w x A n c->n<=1073741824->Calls prog 215 #[.agg #[.slice A n c],.int .u64 0] w (zhb w 0 0 false)
open Go Go.RowKit Go.Proofs.Tryz
set_option maxHeartbeats 16000000
set_option linter.unusedVariables false
def qOf (p q:Int):Rat:=Rat.divInt p (if q=0 then 1 else q)
theorem qOf_zero (p:Int):qOf p 0=(p:Rat):=by
 unfold qOf;rw [if_pos rfl];exact Rat.ext (by rw [Rat.num_divInt,Rat.num_intCast];simp) (by rw [Rat.den_divInt,Rat.den_intCast];simp)
theorem qOf_ne {p q:Int}(h:q≠0):qOf p q=Rat.divInt p q:=by unfold qOf;rw [if_neg h]
theorem zhC {z:Int}(h1: -9223372036854775808<=z)(h2:z<=9223372036854775807):Sz 1 z.natAbs:=by
 show z.natAbs<18446744073709551616^1;rw [Nat.pow_one];omega
theorem qOf_sz {p q:Int}(a: -9223372036854775808<=p)(b:p<=9223372036854775807)(c: -9223372036854775808<=q)(d:q<=9223372036854775807):SzQ 1 (qOf p q):=by
 unfold qOf;refine SzQ.made (zhC a b) ?_ de9
 split
 ·exact zhC de9 de9
 ·exact zhC c d
def zdO (rs:List Rat):Rat:=rs.foldl (λa b=>a+b) 0
theorem zqu (rs:List Rat)(a:Rat):rs.foldl (λa b=>a+b) a=a+zdO rs:=by
 unfold zdO
 induction rs generalizing a with
 |nil=>exact(Rat.add_zero a).symm
 |cons r t ih=>
   rw [List.foldl_cons,List.foldl_cons,ih (a+r),ih (0+r),Rat.zero_add,Rat.add_assoc]
theorem zkW:zdO []=0:=rfl
theorem zfu (r:Rat)(rs:List Rat):zdO (r::rs)=r+zdO rs:=by
 show(r::rs).foldl (λa b=>a+b) 0=_;rw [List.foldl_cons,zqu,Rat.zero_add]
def zdY (xs ys:List Rat):Rat:=zdO (List.zipWith (λa b=>a*b) xs ys)
theorem zkq (x:Rat)(xs:List Rat)(y:Rat)(ys:List Rat):zdY (x::xs) (y::ys)=x*y+zdY xs ys:=by
 show zdO (List.zipWith _ (x::xs) (y::ys))=_;rw [List.zipWith_cons_cons,zfu];rfl
def addL (xs ys:List Rat):List Rat:=List.zipWith (λa b=>a+b) xs ys
def subL (xs ys:List Rat):List Rat:=List.zipWith (λa b=>a - b) xs ys
def mulL (xs ys:List Rat):List Rat:=List.zipWith (λa b=>a*b) xs ys
def zdn (xs:List Rat)(r:Rat)(ys:List Rat):List Rat:=List.zipWith (λa b=>a+r*b) xs ys
def zau (r:Rat)(xs:List Rat):List Rat:=xs.map λx=>r*x
theorem zpZ {xs ys:List Rat}{f:Rat->Rat->Rat}{n:Nat}(h:xs.length=n)(k:ys.length=n):(List.zipWith f xs ys).length=n:=by rw [List.length_zipWith,h,k,Nat.min_self]
def zfk:List Rat->List Rat->Int
 |[],[]=>0
 |[],_::_=> -1
 |_::_,[]=>1
 |x::xs,y::ys=>if x=y then zfk xs ys else zgA x y
theorem cmpQ_ne {x y:Rat}(h:x≠y):zgA x y≠0:=λe=>h ((cmpQ_eq x y).1 e)
theorem zlq:∀(xs ys:List Rat),zfk xs ys=0↔xs=ys
 |[],[]=>by simp [zfk]
 |[],_::_=>by simp [zfk]
 |_::_,[]=>by simp [zfk]
 |x::xs,y::ys=>by
   unfold zfk;by_cases h:x=y
   ·rw [if_pos h,zlq xs ys,h];simp
   ·rw [if_neg h];constructor
    ·intro e;exact absurd e (cmpQ_ne h)
    ·intro e;injection e with e1 e2;exact absurd e1 h
theorem zqh {x y:Rat}{xs ys:List Rat}(h:x=y):zfk (x::xs) (y::ys)=zfk xs ys:=by
 show(if x=y then zfk xs ys else zgA x y)=_;exact if_pos h
theorem znX {x y:Rat}{xs ys:List Rat}(h:x≠y):zfk (x::xs) (y::ys)=zgA x y:=by
 show(if x=y then zfk xs ys else zgA x y)=_;exact if_neg h
theorem zeb {xs:List Rat}{k:Nat}(h:k<xs.length):xs.drop k=xs.getD k 0::xs.drop (k+1):=by
 rw [List.drop_eq_getElem_cons h,List.getD_eq_getElem?_getD,List.getElem?_eq_getElem h];rfl
theorem zjd {xs ys:List Rat}{k:Nat}(hx:k<xs.length)(hy:k<ys.length)(h:xs.getD k 0=ys.getD k 0):zfk (xs.drop k) (ys.drop k)=zfk (xs.drop (k+1)) (ys.drop (k+1)):=by
 rw [zeb hx,zeb hy,zqh h]
theorem ziy {xs ys:List Rat}{k:Nat}(hx:k<xs.length)(hy:k<ys.length)(h:xs.getD k 0≠ys.getD k 0):zfk (xs.drop k) (ys.drop k)=zgA (xs.getD k 0) (ys.getD k 0):=by
 rw [zeb hx,zeb hy,znX h]
def cmpN (a b:Nat):Int:=if a<b then -1 else if a=b then 0 else 1
theorem cmpV_end {xs ys:List Rat}{k:Nat}(hk:k=min xs.length ys.length):zfk (xs.drop k) (ys.drop k)=cmpN xs.length ys.length:=by
 unfold cmpN;by_cases h1:xs.length<ys.length
 ·rw [if_pos h1,List.drop_of_length_le om9,zeb (xs:=ys) om9];rfl
 ·rw [if_neg h1];by_cases h2:xs.length=ys.length
  ·rw [if_pos h2,List.drop_of_length_le om9,List.drop_of_length_le om9];rfl
  ·rw [if_neg h2,List.drop_of_length_le (l:=ys) om9,zeb (xs:=xs) om9];rfl
def zat (K:Nat)(xs:List Rat):Prop:=∀x ∈ xs,SzQ K x
theorem zat.at_ {K:Nat}{xs:List Rat}(h:zat K xs){k:Nat}(hk:k<xs.length):SzQ K (xs.getD k 0):=by
 rw [List.getD_eq_getElem?_getD,List.getElem?_eq_getElem hk];exact h _ (List.getElem_mem hk)
theorem zat.up {K K':Nat}{xs:List Rat}(h:zat K xs)(e:K<=K'):zat K' xs:=λx hx=>(h x hx).up e
theorem zat.zip {K K' L:Nat}{f:Rat->Rat->Rat}(hf:∀x y,SzQ K x->SzQ K' y->SzQ L (f x y)):∀{xs ys:List Rat},zat K xs->zat K' ys->zat L (List.zipWith f xs ys)
 |[],_,_,_=>λx hx=>by cases hx
 |_::_,[],_,_=>λx hx=>by cases hx
 |x::xs,y::ys,h,k=>λz hz=>by
   rw [List.zipWith_cons_cons] at hz;rcases List.mem_cons.1 hz with rfl|hz
   ·exact hf x y (h x List.mem_cons_self) (k y List.mem_cons_self)
   ·exact zat.zip hf (λa ha=>h a (List.mem_cons_of_mem _ ha)) (λa ha=>k a (List.mem_cons_of_mem _ ha)) z hz
theorem zat.add {K K':Nat}{xs ys:List Rat}(h:zat K xs)(k:zat K' ys):zat (K+K'+1) (addL xs ys):=zat.zip (λ_ _=>SzQ.add) h k
theorem zat.sub {K K':Nat}{xs ys:List Rat}(h:zat K xs)(k:zat K' ys):zat (K+K'+1) (subL xs ys):=zat.zip (λ_ _=>SzQ.sub) h k
theorem zat.mul {K K':Nat}{xs ys:List Rat}(h:zat K xs)(k:zat K' ys):zat (K+K') (mulL xs ys):=zat.zip (λ_ _=>SzQ.mul) h k
theorem zat.addT {K K' L:Nat}{r:Rat}{xs ys:List Rat}(h:zat K xs)(hr:SzQ L r)(k:zat K' ys):zat (K+(L+K')+1) (zdn xs r ys):=zat.zip (λ_ _ a b=>a.add (hr.mul b)) h k
theorem zat.scale {K L:Nat}{r:Rat}{xs:List Rat}(hr:SzQ L r)(h:zat K xs):zat (L+K) (zau r xs):=λx hx=>by
 obtain⟨y,hy,rfl⟩:=List.mem_map.1 hx;exact hr.mul (h y hy)
theorem zpc {K:Nat}:∀{xs:List Rat},zat K xs->SzQ (1+xs.length*(K+1)) (zdO xs)
 |[],_=>by rw [List.length_nil,Nat.zero_mul];exact SzQ.zero
 |x::xs,h=>by
   rw [zfu];exact((h x List.mem_cons_self).add (zpc λa ha=>h a (List.mem_cons_of_mem _ ha))).up (by rw [List.length_cons,Nat.succ_mul];omega)
theorem take_sz {K n:Nat}{xs:List Rat}(h:zat K xs)(hl:xs.length=n)(k:Nat)(hk:k<=n):SzQ (1+n*(K+1)) (zdO (xs.take k)):=by
 have h1:=zpc (xs:=xs.take k) (K:=K) (λa ha=>h a (List.mem_of_mem_take ha));refine h1.up ?_;rw [List.length_take];have:min k xs.length*(K+1)<=n*(K+1):=Nat.mul_le_mul_right _ om9;omega
theorem dot_sz {K K' n:Nat}{xs ys:List Rat}(hx:xs.length=n)(hy:ys.length=n)(h:zat K xs)(k:zat K' ys):SzQ (1+n*(K+K'+1)) (zdY xs ys):=by
 have:=zpc (zat.mul h k);rw [show(mulL xs ys).length=n from zpZ hx hy] at this;exact this
theorem zrh {xs:List Rat}{n:Nat}{r:Rat}(hx:xs.length=n):(zau r xs).length=n:=by unfold zau;rw [List.length_map];exact hx
open Go Go.RowKit Go.Proofs.Tryz
set_option maxHeartbeats 16000000
set_option linter.unusedVariables false
abbrev El (α:Type):=World->α->Bool->oA9->Nat->Nat->oA9->Nat->Nat->Prop
def zaV (g:Nat)(w w':World):Prop:=w.heap.size<=w'.heap.size/\∀p:Addr,p.block<w.heap.size->p.block≠g->w'.cell? p=w.cell? p
theorem zaV.of_far {g:Nat}{w w':World}(h:zbp g w w'):zaV g w w':=⟨by rw [h.1];exact Nat.le_refl _,λp _ hp=>h.2 p hp⟩
theorem zaV.of_grown {g:Nat}{w w':World}(h:w.grownBy w' (some g)):zaV g w w':=
 ⟨h.size,λp hp a=>World.cell?_of_block (h.block p.block hp (λe=>a (by injection e)))⟩
theorem zaX {w w':World}(h:w.grownBy w' none):Below w.heap.size w w':=(Below.refl _ w).grown h (Nat.le_refl _) (λk e=>by cases e)
theorem zjN {w w':World}{A:oA9}{n g:Nat}{k:IntKind}{l:List Nat}{t:TypeId}{cs:Array Value}(h:zaw w w.heap.size 1 A n (zaF k l))(hk:Blk w g t cs)(a:NoU cs)(ho:zaV g w w'):zaw w' w'.heap.size 1 A n (zaF k l):=by
 have b:=zkO h hk a;refine⟨h.1,λhn=>?_⟩;obtain⟨ad,e,hb,hc⟩:=h.2 hn;refine⟨ad,e,Nat.lt_of_lt_of_le hb ho.1,λj v hv=>?_⟩;rw [ho.2 (ad.add j) (by rw [zah];exact hb) (by rw [zah];exact b hn ad e)];exact hc j v hv
theorem zjZ {w w':World}{x:Nat}{A:oA9}{n c g:Nat}{t:TypeId}{cs:Array Value}(h:zad w x A n c)(hk:Blk w g t cs)(a:NoU cs)(ho:zaV g w w'):zad w' x A n c:=⟨zjN h.1 hk a ho,h.2⟩
theorem zjn {w w':World}{x:Nat}{A:oA9}{n c g:Nat}{t:TypeId}{cs:Array Value}(h:zdB w x A n c)(hk:Blk w g t cs)(a:NoU cs)(ho:zaV g w w'):zdB w' x A n c:=⟨zjN h.1 hk a ho,h.2⟩
structure zco {α:Type}(E:El α):Prop where
 below:∀{w w':World} {x:α} {b:Bool} {A:oA9} {n c:Nat} {F:oA9} {k f:Nat},E w x b A n c F k f->Below w.heap.size w w'->E w' x b A n c F k f
 offg:∀{w w':World} {x:α} {b:Bool} {A:oA9} {n c:Nat} {F:oA9} {k f g:Nat} {t:TypeId} {cs:Array Value},E w x b A n c F k f->Blk w g t cs->NoU cs->zaV g w w'->E w' x b A n c F k f
theorem zak:zco zaf where
 below h hb:=h.below hb
 offg h hk hcs ho:=by
  obtain⟨⟨h1,h2⟩,x,e,h3⟩:=h;exact⟨⟨h1,zjZ h2 hk hcs ho⟩,x,e,zjZ h3 hk hcs ho⟩
section
variable {α:Type}{E:El α}
structure zaM (E:El α)(w:World)(A:oA9)(n c:Nat)(xs:List α):Prop where
 len:xs.length=n
 fits:n<=c
 most:c<=9223372036854775807
 num:∀i x,xs[i]?=some x->∃(ad:Addr) (b:Bool) (B:oA9) (m d:Nat) (F:oA9) (u v:Nat),A=some ad/\ad.block<w.heap.size/\w.cell? (ad.add (i*3))=some (.bool b)/\w.cell? (ad.add (i*3+1))=some (.slice B m d)/\w.cell? (ad.add (i*3+2))=some (.slice F u v)/\E w x b B m d F u v
theorem zaM.below (hE:zco E){w w':World}{A:oA9}{n c:Nat}{xs:List α}(h:zaM E w A n c xs)(hb:Below w.heap.size w w'):zaM E w' A n c xs:=
 ⟨h.len,h.fits,h.most,λi x hi=>by
  obtain⟨ad,b,B,m,d,F,u,v,e,h1,h2,h3,h4,h5⟩:=h.num i x hi;exact⟨ad,b,B,m,d,F,u,v,e,Nat.lt_of_lt_of_le h1 hb.size,zac hb h2,zac hb h3,zac hb h4,hE.below h5 hb⟩⟩
theorem zaM.nil (w:World):zaM E w none 0 0 []:=⟨rfl,Nat.le_refl _,de9,λi x hi=>by simp at hi⟩
theorem zaM.at_ {w:World}{A:oA9}{n c:Nat}{xs:List α}(h:zaM E w A n c xs){i:Nat}(hi:i<n)(d0:α):∃(ad:Addr) (b:Bool) (B:oA9) (m d:Nat) (F:oA9) (u v:Nat),A=some ad/\ad.block<w.heap.size/\w.cell? (ad.add (i*3))=some (.bool b)/\w.cell? (ad.add (i*3+1))=some (.slice B m d)/\w.cell? (ad.add (i*3+2))=some (.slice F u v)/\E w (xs.getD i d0) b B m d F u v:=by
 have hl:=h.len;refine h.num i _ ?_;rw [List.getD_eq_getElem?_getD,List.getElem?_eq_getElem om9];rfl
structure zbm (E:El α)(w:World)(t:TypeId)(g n:Nat)(xs:List α):Prop where
 len:xs.length=n
 blk:∃cs:Array Value,Blk w g t cs/\NoU cs/\cs.size=n*3
 num:∀i x,xs[i]?=some x->∃(b:Bool) (B:oA9) (m d:Nat) (F:oA9) (u v:Nat),w.cell? ⟨g,i*3,none⟩=some (.bool b)/\w.cell? ⟨g,i*3+1,none⟩=some (.slice B m d)/\w.cell? ⟨g,i*3+2,none⟩=some (.slice F u v)/\E w x b B m d F u v
theorem zbm.lt {w:World}{t:TypeId}{g n:Nat}{xs:List α}(h:zbm E w t g n xs):g<w.heap.size:=by
 obtain⟨cs,hk,_⟩:=h.blk;exact hk.lt
theorem zbm.below (hE:zco E){w w':World}{t:TypeId}{g n:Nat}{xs:List α}(h:zbm E w t g n xs)(hb:Below w.heap.size w w'):zbm E w' t g n xs:=by
 refine⟨h.len,?_,λi x hi=>?_⟩
 ·obtain⟨cs,hk,h1,h2⟩:=h.blk;exact⟨cs,zab hb hk,h1,h2⟩
 ·obtain⟨b,B,m,d,F,u,v,h1,h2,h3,h4⟩:=h.num i x hi;exact⟨b,B,m,d,F,u,v,zac hb h1,zac hb h2,zac hb h3,hE.below h4 hb⟩
theorem zar (g k:Nat):(⟨g,0,none⟩:Addr).add k=⟨g,k,none⟩:=by unfold Addr.add;split<;>simp_all
theorem zbm.row {w:World}{t:TypeId}{g n:Nat}{xs:List α}(h:zbm E w t g n xs)(hn:n<=9223372036854775807):zaM E w (some ⟨g,0,none⟩) n n xs:=
 ⟨h.len,Nat.le_refl _,hn,λi x hi=>by
  obtain⟨b,B,m,d,F,u,v,h1,h2,h3,h4⟩:=h.num i x hi;exact⟨_,b,B,m,d,F,u,v,rfl,h.lt,by rw [zar];exact h1,by rw [zar];exact h2,by rw [zar];exact h3,h4⟩⟩
theorem zbm.ready {w:World}{t:TypeId}{g n:Nat}{xs:List α}(h:zbm E w t g n xs){i:Nat}(hi:i<n)(x y:Value):∃a b c:Value,w.cell? ⟨g,i*3,none⟩=some a/\w.frozen? ⟨g,i*3,none⟩=false/\(w.setCell ⟨g,i*3,none⟩ x).cell? ⟨g,i*3+1,none⟩=some b/\(w.setCell ⟨g,i*3,none⟩ x).frozen? ⟨g,i*3+1,none⟩=false/\
  ((w.setCell ⟨g,i*3,none⟩ x).setCell ⟨g,i*3+1,none⟩ y).cell? ⟨g,i*3+2,none⟩=some c/\((w.setCell ⟨g,i*3,none⟩ x).setCell ⟨g,i*3+1,none⟩ y).frozen? ⟨g,i*3+2,none⟩=false:=by
 obtain⟨cs,hk,h1,h2⟩:=h.blk;have d:=hk.set_ (i*3) x;have f:=d.set_ (i*3+1) y;have e0:i*3<cs.size:=om9;have e1:i*3+1<(cs.setIfInBounds (i*3) x).size:=by simp;omega
 have e2:i*3+2<((cs.setIfInBounds (i*3) x).setIfInBounds (i*3+1) y).size:=by simp;omega
 exact⟨_,_,_,(hk.cell _).trans (Array.getElem?_eq_getElem e0),hk.frozen _,(d.cell _).trans (Array.getElem?_eq_getElem e1),d.frozen _,(f.cell _).trans (Array.getElem?_eq_getElem e2),f.frozen _⟩
theorem zgr {cs:Array Value}(h:NoU cs)(i:Nat){v:Value}(hv:∀k z,v≠.int k z):NoU (cs.setIfInBounds i v):=by
 intro u hu;rw [Array.toList_setIfInBounds] at hu;rcases List.mem_or_eq_of_mem_set hu with hu|rfl
 ·exact h u hu
 ·exact hv
theorem zfC (g i j k:Nat)(w:World)(x y z:Value):zbp g w (((w.setCell ⟨g,i,none⟩ x).setCell ⟨g,j,none⟩ y).setCell ⟨g,k,none⟩ z):=(((zbp.refl g w).set_ i x).set_ j y).set_ k z
theorem zbm.set_ (hE:zco E){w:World}{t:TypeId}{g n:Nat}{xs:List α}(h:zbm E w t g n xs){i:Nat}(hi:i<n){x:α}{b:Bool}{B:oA9}{m d:Nat}{F:oA9}{u v:Nat}(hx:E w x b B m d F u v):
  zbm E (((w.setCell ⟨g,i*3,none⟩ (.bool b)).setCell ⟨g,i*3+1,none⟩ (.slice B m d)).setCell ⟨g,i*3+2,none⟩ (.slice F u v)) t g n (xs.set i x):=by
 obtain⟨cs,hk,h1,h2⟩:=h.blk;have ho:=zaV.of_far (zfC g (i*3) (i*3+1) (i*3+2) w (.bool b) (.slice B m d) (.slice F u v));have a:=((hk.set_ (i*3) (.bool b)).set_ (i*3+1) (.slice B m d)).set_ (i*3+2) (.slice F u v);refine⟨by rw [List.length_set];exact h.len,⟨_,a,?_,by simp;exact h2⟩,λj y hj=>?_⟩
 ·exact zgr (zgr (zgr h1 _ (λ_ _ e=>by cases e)) _ (λ_ _ e=>by cases e)) _ (λ_ _ e=>by cases e)
 ·by_cases hij:i=j
  ·subst hij;have hl:=h.len;rw [List.getElem?_set_self om9] at hj;injection hj with hj;subst hj;refine⟨b,B,m,d,F,u,v,?_,?_,?_,hE.offg hx hk h1 ho⟩
   ·rw [a.cell,Array.getElem?_setIfInBounds_ne om9,Array.getElem?_setIfInBounds_ne om9,Array.getElem?_setIfInBounds_self_of_lt om9]
   ·rw [a.cell,Array.getElem?_setIfInBounds_ne om9,Array.getElem?_setIfInBounds_self_of_lt (by simp;omega)]
   ·rw [a.cell,Array.getElem?_setIfInBounds_self_of_lt (by simp;omega)]
  ·rw [List.getElem?_set_ne hij] at hj;obtain⟨b',B',m',d',F',u',v',c1,c2,c3,c4⟩:=h.num j y hj;refine⟨b',B',m',d',F',u',v',?_,?_,?_,hE.offg c4 hk h1 ho⟩
   ·rw [a.cell,Array.getElem?_setIfInBounds_ne om9,Array.getElem?_setIfInBounds_ne om9,Array.getElem?_setIfInBounds_ne om9,<-hk.cell];exact c1
   ·rw [a.cell,Array.getElem?_setIfInBounds_ne om9,Array.getElem?_setIfInBounds_ne om9,Array.getElem?_setIfInBounds_ne om9,<-hk.cell];exact c2
   ·rw [a.cell,Array.getElem?_setIfInBounds_ne om9,Array.getElem?_setIfInBounds_ne om9,Array.getElem?_setIfInBounds_ne om9,<-hk.cell];exact c3
end
theorem zbI (z:Array Value)(n j:Nat)(h:j<n):(madeCells z n)[j]?=some z[j%z.size]!:=by
 unfold madeCells;rw [Array.getElem?_map,Array.getElem?_eq_getElem (by simpa using h)];simp
def zgJ:Array Value:=#[.bool false,.slice none 0 0,.slice none 0 0]
theorem zrD (n:Nat):NoU (madeCells zgJ n):=by
 intro v hv k z e;rw [Array.mem_toList_iff,Array.mem_iff_getElem?] at hv;obtain⟨j,hj⟩:=hv;have a:j<n:=by
  have:=(Array.getElem?_eq_some_iff.1 hj).1;rwa [size_madeCells] at this
 rw [zbI _ _ _ a] at hj;have h3:j%3=0\/j%3=1\/j%3=2:=om9;rw [show zgJ.size=3 from rfl] at hj;subst e;rcases h3 with h3|h3|h3<;>rw [h3] at hj<;>simp [zgJ] at hj
theorem zbm.made {α:Type}{E:El α}(w:World)(t:TypeId)(n:Nat)(z0:α)(hz:∀w',E w' z0 false none 0 0 none 0 0):zbm E (w.alloc (.cells (madeCells zgJ (n*3)) t)) t w.heap.size n (List.replicate n z0):=by
 have hk:=Blk.new w t (madeCells zgJ (n*3));refine⟨si9,⟨_,hk,zrD _,size_madeCells _ _⟩,λi x hi=>?_⟩;have a:i<n:=by
  have:=(List.getElem?_eq_some_iff.1 hi).1;simpa using this
 obtain rfl:z0=x:=by
  rw [List.getElem?_replicate,if_pos a] at hi;injection hi
 have e0:(i*3)%3=0:=om9;have e1:(i*3+1)%3=1:=om9;have e2:(i*3+2)%3=2:=om9;refine⟨false,none,0,0,none,0,0,?_,?_,?_,hz _⟩
 ·rw [hk.cell,zbI _ _ _ om9,show zgJ.size=3 from rfl,e0];rfl
 ·rw [hk.cell,zbI _ _ _ om9,show zgJ.size=3 from rfl,e1];rfl
 ·rw [hk.cell,zbI _ _ _ om9,show zgJ.size=3 from rfl,e2];rfl
def zbU {α:Type}(z0:α)(ys:List α)(n i:Nat):List α:=ys.take i++List.replicate (n - i) z0
theorem zbk {α:Type}(z0:α)(ys:List α)(n:Nat):zbU z0 ys n 0=List.replicate n z0:=by simp [zbU]
theorem zbu {α:Type}(z0:α)(ys:List α)(n:Nat)(h:ys.length=n):zbU z0 ys n n=ys:=by simp [zbU,<-h]
theorem zbv {α:Type}(z0:α)(ys:List α)(n i:Nat)(hl:ys.length=n)(hi:i<n)(y:α)(hy:ys[i]?=some y):(zbU z0 ys n i).set i y=zbU z0 ys n (i+1):=by
 unfold zbU;have a:i<ys.length:=om9;have e:(ys.take i).length=i:=by rw [List.length_take];omega
 rw [List.set_append_right _ _ om9,e,Nat.sub_self,List.take_succ_eq_append_getElem a,List.append_assoc];congr 1;obtain⟨m,hm⟩:∃m,n - i=m+1:=⟨n - i - 1,om9⟩;have b:n - (i+1)=m:=om9;rw [hm,b,List.replicate_succ];have hv:ys[i]=y:=by rw [List.getElem?_eq_getElem a] at hy;injection hy
 rw [hv];rfl
theorem ziw (w:World):zad w 0 none 0 0:=by
 refine⟨⟨by rw [show dg 18446744073709551616 0=[] from by rw [dg];rfl];rfl,λh=>absurd h de9⟩,Nat.le_refl _,de9⟩
theorem zfr (w:World):zaf w (0:Rat) false none 0 0 none 0 0:=⟨⟨rfl,ziw w⟩,⟨0,⟨rfl,de9⟩,ziw w⟩⟩
abbrev zaH (w:World)(A:oA9)(n c:Nat)(xs:List Rat):Prop:=zaM zaf w A n c xs
abbrev zaI (w:World)(g n:Nat)(xs:List Rat):Prop:=zbm zaf w 41 g n xs
theorem zaH.keep {w w':World}{A:oA9}{n c:Nat}{xs:List Rat}(h:zaH w A n c xs)(hb:Below w.heap.size w w'):zaH w' A n c xs:=zaM.below zak h hb
theorem zaI.keep {w w':World}{g n:Nat}{xs:List Rat}(h:zaI w g n xs)(hb:Below w.heap.size w w'):zaI w' g n xs:=zbm.below zak h hb
def zdq (w:World)(n:Nat)(xs:List Rat)(e:Ending)(w':World):Prop:=∃g,e=.returned (.slice (some ⟨g,0,none⟩) n n)/\w.heap.size<=g/\zaI w' g n xs/\Below w.heap.size w w'
def zdg (w:World)(n:Nat)(xs:List Rat)(e:Ending)(w':World):Prop:=∃g,e=.returned (.tuple #[.slice (some ⟨g,0,none⟩) n n,.bool true])/\w.heap.size<=g/\zaI w' g n xs/\Below w.heap.size w w'
theorem own_make (w:World)(n:Nat):zaI (w.alloc (.cells (madeCells zgJ (n*3)) 41)) w.heap.size n (List.replicate n 0):=zbm.made w _ n 0 zfr
theorem zhR:(prog.info? 41).map (λi=>(i.zero,i.size,i.bytes))=some (some (.agg #[.bool false,.slice none 0 0,.slice none 0 0]),3,56):=kr9
theorem ziG {w:World}{ad:Addr}{k:Nat}{v:Value}(h:w.cell? (ad.add (k+1))=some v):w.cell? ⟨(ad.add k).block,(ad.add k).off+1,none⟩=some v:=by
 rw [<-zef] at h;exact h
theorem zpo {w:World}{ad:Addr}{k:Nat}{v:Value}(h:w.cell? (ad.add (k+2))=some v):w.cell? ⟨(ad.add k).block,(ad.add k).off+2,none⟩=some v:=by
 rw [<-zef] at h;exact h
theorem zcQ (n:Nat)(hn:n<=1099511627776):∃Z:Array Value,∀W:World,(Instr.makeSlice 61 (.int .i64 (n:Int)) (.int .i64 (n:Int))).run prog W=.ok (.slice (some ⟨W.heap.size,0,none⟩) n n) (W.alloc (.cells Z 41))/\zaI (W.alloc (.cells Z 41)) W.heap.size n (List.replicate n 0):=by
 obtain⟨i0,a,b,c,d⟩:=info_parts zhR;refine⟨madeCells zgJ (n*3),λW=>⟨?_,own_make W n⟩⟩;have h:=zbf (P:=prog) _ _ i0 _ underlying61 a b .i64 .i64 n n (Nat.le_refl _) (by rw [d];omega) om9 W;rw [c] at h;exact h
theorem zaH.get {w wr:World}{A:oA9}{n c:Nat}{xs:List Rat}(h:zaH w A n c xs)(hb:Below w.heap.size w wr){i:Nat}(hi:i<n):∃(ad:Addr) (b:Bool) (B:oA9) (m d:Nat) (F:oA9) (u v:Nat),A=some ad/\ad.block<w.heap.size/\wr.cell? (ad.add (i*3))=some (.bool b)/\wr.cell? ⟨(ad.add (i*3)).block,(ad.add (i*3)).off+1,none⟩=some (.slice B m d)/\wr.cell? ⟨(ad.add (i*3)).block,(ad.add (i*3)).off+2,none⟩=some (.slice F u v)/\zaf wr (xs.getD i 0) b B m d F u v:=by
 obtain⟨ad,b,B,m,d,F,u,v,e,h0,h1,h2,h3,h4⟩:=h.at_ hi 0;exact⟨ad,b,B,m,d,F,u,v,e,h0,zac hb h1,zac hb (ziG h2),zac hb (zpo h3),h4.below hb⟩
theorem off_add {ad:Addr}{k g:Nat}(h:ad.block≠g):(ad.add k).block≠g:=by rw [zah];exact h
theorem zcA {w W:World}{g:Nat}(i j k:Nat)(x y z:Value)(hg:w.heap.size<=g)(h:Below w.heap.size w W):Below w.heap.size w (((W.setCell ⟨g,i,none⟩ x).setCell ⟨g,j,none⟩ y).setCell ⟨g,k,none⟩ z):=zae z hg (zae y hg (zae x hg h))
open Go Go.RowKit Go.Proofs.Tryz
set_option maxHeartbeats 16000000
set_option maxRecDepth 100000
set_option linter.unusedVariables false
set_option linter.unusedSimpArgs false
theorem zjX (f:Rat->Rat->Rat)(F:FuncId)(cap:Array Value)(xs ys:List Rat)(A B:oA9)(n c d:Nat)(w:World)(ha:zaH w A n c xs)(hb:zaH w B n d ys)(hn:n<=1073741824)
  (hEn:∀(args:Array Value) (w':World),Sem.run prog (callFunc F args) w'=.ok (.enter F args) w')
  (hF : ∀ i,i < n → ∀ w',Below w.heap.size w w' → ∀ (b b' : Bool) (A A' : oA9) (n n' c c' : Nat) (E E' : oA9) (k k' f9 C : Nat),zaf w' (xs.getD i 0) b A n c E k f9 → zaf w' (ys.getD i 0) b' A' n' c' E' k' C →
    Calls prog F (#[.agg #[.bool b,.slice A n c,.slice E k f9],.agg #[.bool b',.slice A' n' c',.slice E' k' C]]++cap) w' (zaE w' (f (xs.getD i 0) (ys.getD i 0)))):
  Calls prog 124 #[.slice A n c,.slice B n d,.func (.func F) #[] cap] w (zdg w n (List.zipWith f xs ys)):=by
 have J:=ha.len;have L:=hb.len;have s:(List.zipWith f xs ys).length=n:=zpZ J L;unfold zdg;have o:∀i,i<n->(List.zipWith f xs ys)[i]?=some (f (xs.getD i 0) (ys.getD i 0)):=λi hi=>by
  rw [List.getElem?_zipWith,List.getD_eq_getElem?_getD,List.getD_eq_getElem?_getD,List.getElem?_eq_getElem om9,List.getElem?_eq_getElem om9];rfl
 obtain⟨zs,O⟩:∃zs,List.zipWith f xs ys=zs:=⟨_,rfl⟩;rw [O] at o s⊢;have HG:=lh9 o;have z:=lh9 s;have HF:=lh9 hF;have HA:=lh9 ha;have Q:=lh9 hb;obtain⟨Z,hZ⟩:=zcQ n om9;have X:=λW=>(hZ W).1;have l:=lh9 (λW=>(hZ W).2);clear hF ha hb J L s O o hZ;have hd0:((n:Int) !=(n:Int))=false:=si9;have i0:(0:Int)<=(n:Int):=om9;go_enter func124,ntmps124;go_wp2_with fail;clear X;have a:=l.out w;have hB:Below w.heap.size w (w.alloc (.cells Z 41)):=(Below.refl _ w).alloc (Nat.le_refl _) _;obtain⟨gp,r⟩:∃g,w.heap.size=g:=⟨_,rfl⟩;have N:w.heap.size<=gp:=om9;have hz:gp+1<=(w.alloc (.cells Z 41)).heap.size:=by simp [r]
 rw [r] at a⊢;rw [<-zbk 0 zs n] at a;generalize w.alloc (.cells Z 41)=W1 at*;clear r l
 go_loopg [21] (n+1) (λg ix wr=>∃(k:Nat),k<=n/\n<g+k/\ix=.int .i64 k/\zaI wr gp n (zbU 0 zs n k)/\Below w.heap.size w wr)
 case atStart=>exact⟨0,Nat.zero_le _,om9,rfl,a,hB⟩
 case round=>
  clear a hB hz;obtain⟨k,hkn,hg,rfl,a,hB⟩:=hrel;by_cases hlt:k<n
  ·obtain⟨ad,b1,B1,m1,d1,E1,u1,v1,rfl,-,S,T,U,hx⟩:=HA.out.get hB hlt;obtain⟨ae,b2,B2,m2,d2,E2,u2,v2,rfl,hae,G,H,I,hy⟩:=Q.out.get hB hlt;have V:decide ((k:Int)<(n:Int))=true:=by simp;omega
   have i1:(0:Int)<=(k:Int):=om9;have i2:(k:Int)<(n:Int):=om9;have hgr:=a.lt;obtain⟨st,d3,d4⟩:=zax wr 41 #[.bool b1,.slice B1 m1 d1,.slice E1 u1 v1];have y:=lh9 d3;have HX:=lh9 (hx.below st);have HY:=lh9 (hy.below st);have m:=lh9 (a.keep st);have j:=lh9 (zaa hB st);have HE:=lh9 (And.intro (zac st G) (And.intro (zac st H) (zac st I)));clear hx hy a hB st d3 d4 G H I;go_wp2_with fail;clear S T U;generalize wr.alloc (.cells #[.bool b1,.slice B1 m1 d1,.slice E1 u1 v1] 41)=W2 at*;generalize wr.heap.size=gb at*;obtain⟨p0,p1,p2⟩:=y.out.c3;obtain⟨e0,e1,e2⟩:=HE.out;have h:=(Below.refl W2.heap.size W2).drew;have t:=off_add (k:=k*3) (show ae.block≠gp by omega);refine rg (csc p0 (csc p1 (csc p2 (csc e0 (csc e1 (csc e2 csn)))))) (λhHeld=>?_);refine tk 0 ?_;refine tk 1 ?_;refine tk 2 ?_;refine tk 3 ?_;refine tk 4 ?_;refine tk 5 ?_;refine tk 6 ?_;refine tk 7 ?_;refine rc 8 (λK hK=>?_);go_simp;refine(HF.out k hlt _ (zaa j.out h) _ _ _ _ _ _ _ _ _ _ _ _ _ _ (HX.out.below h) (HY.out.below h)).mono ?_;rintro e w3 ⟨b3,A3,n3,c3,E3,k3,f3,rfl,M,hb⟩;have h:=zaa h hb;refine hK.out _ _ (Cs.below hHeld hb) (λhHeld=>?_);clear hK K hb;refine tk 9 ?_;have u:=m.out.keep h;obtain⟨q0,q1,q2,Y,ac,aa,af,ab,ag⟩:=u.ready hlt (.bool b3) (.slice A3 n3 c3);refine rc 10 (λK hK=>?_);go_simp;have v:=zbm.set_ zak u hlt M;rw [zbv 0 zs n k z.out hlt _ (HG.out k hlt)] at v;have D:=zcA (k*3) (k*3+1) (k*3+2) (.bool b3) (.slice A3 n3 c3) (.slice E3 k3 f3) N (zaa j.out h);refine hK.out _ _ (Cs.far hHeld (zfC _ _ _ _ _ _ _ _) (by refine⟨?_,?_,?_,t,t,t,trivial⟩<;>(show gb≠gp;omega))) (λhHeld=>?_);clear hK K;refine rdn ?_;have R:=lh9 v;have P:=lh9 D;clear v D u hHeld h M Y ac aa af ab ag p0 p1 p2 e0 e1 e2 y HX HY m j HE;go_wp2;go_roundg (n - k)
   case measure=>omega
   case rel=>exact⟨k+1,om9,om9,by go_num,R.out,P.out⟩
  ·have hk:k=n:=om9;subst hk;have V:decide ((k:Int)<(k:Int))=false:=si9;have HR:=lh9 (zbu 0 zs k z.out▸a);have j:=lh9 hB;clear a hB;go_wp2
   go_ret2
   exact⟨gp,rfl,N,HR.out,j.out⟩
open Go Go.RowKit Go.Proofs.Tryz
set_option maxHeartbeats 16000000
set_option maxRecDepth 100000
set_option linter.unusedVariables false
open Go Go.RowKit Go.Proofs.Tryz
set_option maxHeartbeats 16000000
set_option maxRecDepth 100000
set_option linter.unusedVariables false
set_option linter.unusedSimpArgs false
def BackD (b x y:Nat)(D:List Nat):Prop:=D++dg b y=dg b x
theorem BackD.step {b x y:Nat}{D:List Nat}(h:BackD b x y D)(hb:2<=b)(hy:y≠0):BackD b x (y / b) (D++[y%b]):=by
 unfold BackD at h⊢;rw [<-h,zgn hb hy,List.append_assoc];rfl
open Go Go.RowKit Go.Proofs.Tryz
set_option maxHeartbeats 16000000
set_option maxRecDepth 100000
set_option linter.unusedVariables false
open Go Go.RowKit Go.Proofs.Tryz
set_option maxHeartbeats 16000000
set_option maxRecDepth 100000
set_option linter.unusedVariables false
open Go Go.RowKit Go.Proofs.Tryz
set_option maxHeartbeats 16000000
set_option maxRecDepth 100000
set_option linter.unusedVariables false
set_option linter.unusedSimpArgs false
def RefIn (w:World)(z:Int)(b:Bool)(A:oA9)(n c:Nat):Prop:=b=decide (z<0)/\zdB w z.natAbs A n c
theorem RefIn.below {w w':World}{z:Int}{b:Bool}{A:oA9}{n c:Nat}(h:RefIn w z b A n c)(hb:Below w.heap.size w w'):RefIn w' z b A n c:=⟨h.1,h.2.below hb⟩
