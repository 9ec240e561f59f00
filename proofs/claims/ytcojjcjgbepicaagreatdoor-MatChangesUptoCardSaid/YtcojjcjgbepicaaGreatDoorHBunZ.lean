/- What this claim leans on. -/
import Derived.Test.YtcojjcjgbepicaaGreatDoorHVRow
import Derived.Test.YtcojjcjgbepicaaGreatDoorHJ8Add
import Derived.Test.YtcojjcjgbepicaaGreatDoorHJ8Mul
import Derived.Deep.Slices
namespace Go.Proofs.YtcojjcjgbepicaaGreatDoor
open Go Go.RowKit Go.Proofs.Tryz
open Go.ChangeShapes Go.WideShapes Go.ChangeAt
set_option maxHeartbeats 16000000
set_option linter.unusedVariables false
namespace UA
set_option maxHeartbeats 16000000
theorem one_le {H:Type}(d:DataW H):1<=Rows.uptoBulk d:=by
 cases d with
 |lit l=>cases l<;>simp [Rows.uptoBulk]
 |nil=>simp [Rows.uptoBulk]
 |ptr d=>simp [Rows.uptoBulk]
 |slice elems spare=>simp [Rows.uptoBulk]
 |agg parts=>simp [Rows.uptoBulk]
 |iface t d=>simp [Rows.uptoBulk]
 |map entries=>simp [Rows.uptoBulk]
 |held h=>simp [Rows.uptoBulk]
theorem zko {H:Type}(l:List (DataW H)):l.length<=Rows.uptoBulkAll l:=by
 induction l with
 |nil=>simp [Rows.uptoBulkAll]
 |cons x r ih=>have:=one_le x;simp only [Rows.uptoBulkAll,List.length_cons];omega
theorem slice_le {H:Type}(a b:List (DataW H)):a.length+b.length+1<=Rows.uptoBulk (.slice a b):=by
 have h1:=zko a;have h2:=zko b;simp only [Rows.uptoBulk];omega
end UA
open Go Go.RowKit Go.Proofs.Tryz
open Go.ChangeShapes Go.WideShapes Go.ChangeAt Go.Deep
set_option maxHeartbeats 16000000
set_option linter.unusedVariables false
open Go Go.RowKit Go.Proofs.Tryz
open Go.ChangeShapes Go.WideShapes Go.ChangeAt Go.Deep
set_option maxHeartbeats 16000000
set_option linter.unusedVariables false
open Go Go.RowKit Go.Proofs.Tryz
set_option maxHeartbeats 16000000
set_option linter.unusedVariables false
def qOf (p q:Int):Rat:=Rat.divInt p (if q=0 then 1 else q)
theorem znj (p:Int):qOf p 0=(p:Rat):=by
 unfold qOf;rw [if_pos rfl];exact Rat.ext (by rw [Rat.num_divInt,Rat.num_intCast];simp) (by rw [Rat.den_divInt,Rat.den_intCast];simp)
theorem qOf_ne {p q:Int}(h:q≠0):qOf p q=Rat.divInt p q:=by unfold qOf;rw [if_neg h]
theorem zeQ {z:Int}(h1: -9223372036854775808<=z)(h2:z<=9223372036854775807):Sz 1 z.natAbs:=by
 show z.natAbs<18446744073709551616^1;rw [Nat.pow_one];omega
theorem zoG {p q:Int}(a: -9223372036854775808<=p)(b:p<=9223372036854775807)(c: -9223372036854775808<=q)(d:q<=9223372036854775807):SzQ 1 (qOf p q):=by
 unfold qOf;refine SzQ.made (zeQ a b) ?_ de9
 split
 ·exact zeQ de9 de9
 ·exact zeQ c d
def zdM (rs:List Rat):Rat:=rs.foldl (λa b=>a+b) 0
theorem zqn (rs:List Rat)(a:Rat):rs.foldl (λa b=>a+b) a=a+zdM rs:=by
 unfold zdM
 induction rs generalizing a with
 |nil=>exact(Rat.add_zero a).symm
 |cons r t ih=>
   rw [List.foldl_cons,List.foldl_cons,ih (a+r),ih (0+r),Rat.zero_add,Rat.add_assoc]
theorem zkK:zdM []=0:=rfl
theorem zfi (r:Rat)(rs:List Rat):zdM (r::rs)=r+zdM rs:=by
 show(r::rs).foldl (λa b=>a+b) 0=_;rw [List.foldl_cons,zqn,Rat.zero_add]
def zgY (xs ys:List Rat):Rat:=zdM (List.zipWith (λa b=>a*b) xs ys)
theorem zke (x:Rat)(xs:List Rat)(y:Rat)(ys:List Rat):zgY (x::xs) (y::ys)=x*y+zgY xs ys:=by
 show zdM (List.zipWith _ (x::xs) (y::ys))=_;rw [List.zipWith_cons_cons,zfi];rfl
def addL (xs ys:List Rat):List Rat:=List.zipWith (λa b=>a+b) xs ys
def mulL (xs ys:List Rat):List Rat:=List.zipWith (λa b=>a*b) xs ys
theorem zpT {xs ys:List Rat}{f:Rat->Rat->Rat}{n:Nat}(h:xs.length=n)(k:ys.length=n):(List.zipWith f xs ys).length=n:=by rw [List.length_zipWith,h,k,Nat.min_self]
def zfa:List Rat->List Rat->Int
 |[],[]=>0
 |[],_::_=> -1
 |_::_,[]=>1
 |x::xs,y::ys=>if x=y then zfa xs ys else zgx x y
theorem cmpQ_ne {x y:Rat}(h:x≠y):zgx x y≠0:=λe=>h ((cmpQ_eq x y).1 e)
theorem zlf:∀(xs ys:List Rat),zfa xs ys=0↔xs=ys
 |[],[]=>by simp [zfa]
 |[],_::_=>by simp [zfa]
 |_::_,[]=>by simp [zfa]
 |x::xs,y::ys=>by
   unfold zfa;by_cases h:x=y
   ·rw [if_pos h,zlf xs ys,h];simp
   ·rw [if_neg h];constructor
    ·intro e;exact absurd e (cmpQ_ne h)
    ·intro e;injection e with e1 e2;exact absurd e1 h
theorem zqd {x y:Rat}{xs ys:List Rat}(h:x=y):zfa (x::xs) (y::ys)=zfa xs ys:=by
 show(if x=y then zfa xs ys else zgx x y)=_;exact if_pos h
theorem znZ {x y:Rat}{xs ys:List Rat}(h:x≠y):zfa (x::xs) (y::ys)=zgx x y:=by
 show(if x=y then zfa xs ys else zgx x y)=_;exact if_neg h
theorem zdY {xs:List Rat}{k:Nat}(h:k<xs.length):xs.drop k=xs.getD k 0::xs.drop (k+1):=by
 rw [List.drop_eq_getElem_cons h,List.getD_eq_getElem?_getD,List.getElem?_eq_getElem h];rfl
theorem ziF {xs ys:List Rat}{k:Nat}(hx:k<xs.length)(hy:k<ys.length)(h:xs.getD k 0=ys.getD k 0):zfa (xs.drop k) (ys.drop k)=zfa (xs.drop (k+1)) (ys.drop (k+1)):=by
 rw [zdY hx,zdY hy,zqd h]
theorem zig {xs ys:List Rat}{k:Nat}(hx:k<xs.length)(hy:k<ys.length)(h:xs.getD k 0≠ys.getD k 0):zfa (xs.drop k) (ys.drop k)=zgx (xs.getD k 0) (ys.getD k 0):=by
 rw [zdY hx,zdY hy,znZ h]
def cmpN (a b:Nat):Int:=if a<b then -1 else if a=b then 0 else 1
theorem cmpV_end {xs ys:List Rat}{k:Nat}(hk:k=min xs.length ys.length):zfa (xs.drop k) (ys.drop k)=cmpN xs.length ys.length:=by
 unfold cmpN;by_cases h1:xs.length<ys.length
 ·rw [if_pos h1,List.drop_of_length_le om9,zdY (xs:=ys) om9];rfl
 ·rw [if_neg h1];by_cases h2:xs.length=ys.length
  ·rw [if_pos h2,List.drop_of_length_le om9,List.drop_of_length_le om9];rfl
  ·rw [if_neg h2,List.drop_of_length_le (l:=ys) om9,zdY (xs:=xs) om9];rfl
def zaI (K:Nat)(xs:List Rat):Prop:=∀x ∈ xs,SzQ K x
theorem zaI.at_ {K:Nat}{xs:List Rat}(h:zaI K xs){k:Nat}(hk:k<xs.length):SzQ K (xs.getD k 0):=by
 rw [List.getD_eq_getElem?_getD,List.getElem?_eq_getElem hk];exact h _ (List.getElem_mem hk)
theorem zaI.up {K K':Nat}{xs:List Rat}(h:zaI K xs)(e:K<=K'):zaI K' xs:=λx hx=>(h x hx).up e
theorem zaI.zip {K K' L:Nat}{f:Rat->Rat->Rat}(hf:∀x y,SzQ K x->SzQ K' y->SzQ L (f x y)):∀{xs ys:List Rat},zaI K xs->zaI K' ys->zaI L (List.zipWith f xs ys)
 |[],_,_,_=>λx hx=>by cases hx
 |_::_,[],_,_=>λx hx=>by cases hx
 |x::xs,y::ys,h,k=>λz hz=>by
   rw [List.zipWith_cons_cons] at hz;rcases List.mem_cons.1 hz with rfl|hz
   ·exact hf x y (h x List.mem_cons_self) (k y List.mem_cons_self)
   ·exact zaI.zip hf (λa ha=>h a (List.mem_cons_of_mem _ ha)) (λa ha=>k a (List.mem_cons_of_mem _ ha)) z hz
theorem zaI.add {K K':Nat}{xs ys:List Rat}(h:zaI K xs)(k:zaI K' ys):zaI (K+K'+1) (addL xs ys):=zaI.zip (λ_ _=>SzQ.add) h k
theorem zaI.mul {K K':Nat}{xs ys:List Rat}(h:zaI K xs)(k:zaI K' ys):zaI (K+K') (mulL xs ys):=zaI.zip (λ_ _=>SzQ.mul) h k
theorem zpd {K:Nat}:∀{xs:List Rat},zaI K xs->SzQ (1+xs.length*(K+1)) (zdM xs)
 |[],_=>by rw [List.length_nil,Nat.zero_mul];exact SzQ.zero
 |x::xs,h=>by
   rw [zfi];exact((h x List.mem_cons_self).add (zpd λa ha=>h a (List.mem_cons_of_mem _ ha))).up (by rw [List.length_cons,Nat.succ_mul];omega)
theorem take_sz {K n:Nat}{xs:List Rat}(h:zaI K xs)(hl:xs.length=n)(k:Nat)(hk:k<=n):SzQ (1+n*(K+1)) (zdM (xs.take k)):=by
 have h1:=zpd (xs:=xs.take k) (K:=K) (λa ha=>h a (List.mem_of_mem_take ha));refine h1.up ?_;rw [List.length_take];have:min k xs.length*(K+1)<=n*(K+1):=Nat.mul_le_mul_right _ om9;omega
theorem dot_sz {K K' n:Nat}{xs ys:List Rat}(hx:xs.length=n)(hy:ys.length=n)(h:zaI K xs)(k:zaI K' ys):SzQ (1+n*(K+K'+1)) (zgY xs ys):=by
 have:=zpd (zaI.mul h k);rw [show(mulL xs ys).length=n from zpT hx hy] at this;exact this
open Go Go.RowKit Go.Proofs.Tryz
set_option maxHeartbeats 16000000
set_option maxRecDepth 100000
set_option linter.unusedVariables false
set_option linter.unusedSimpArgs false
structure ziz (w:World)(A:oA9)(n c:Nat)(rs:List Rat):Prop where
 len:rs.length=n
 fits:n<=c
 most:c<=9223372036854775807
 num:∀i,i<n->∃(ad:Addr) (b:Bool) (B:oA9) (m d:Nat) (E:oA9) (u v:Nat),A=some ad/\ad.block<w.heap.size/\w.cell? (ad.add (i*3))=some (.bool b)/\w.cell? (ad.add (i*3+1))=some (.slice B m d)/\w.cell? (ad.add (i*3+2))=some (.slice E u v)/\zak w (rs.getD i 0) b B m d E u v
theorem ziz.below {w w':World}{A:oA9}{n c:Nat}{rs:List Rat}(h:ziz w A n c rs)(hb:Below w.heap.size w w'):ziz w' A n c rs:=
 ⟨h.len,h.fits,h.most,λi hi=>by
  obtain⟨ad,b,B,m,d,E,u,v,e,h1,h2,h3,h4,h5⟩:=h.num i hi;exact⟨ad,b,B,m,d,E,u,v,e,Nat.lt_of_lt_of_le h1 hb.size,zae hb h2,zae hb h3,zae hb h4,h5.below hb⟩⟩
def zik (rs:List Rat):Rat:=rs.foldl (λa b=>a+b) 0
theorem zrh (rs:List Rat)(r:Rat):zik (rs++[r])=zik rs+r:=by unfold zik;rw [List.foldl_append];rfl
theorem zri (rs:List Rat)(k:Nat)(h:k<rs.length):zik (rs.take (k+1))=zik (rs.take k)+rs.getD k 0:=by
 rw [List.take_succ_eq_append_getElem h,zrh,List.getD_eq_getElem?_getD,List.getElem?_eq_getElem h];rfl
theorem zoK {w:World}{r:Rat}{b:Bool}{A E:oA9}{n c k f g:Nat}{t:TypeId}{p:Bool}{q q2:oA9}{r1 s r2 s2:Nat}(h:zak w r b A n c E k f)(kd:Blk w g t #[.bool p,.slice q r1 s,.slice q2 r2 s2])(x y z:Value):
  zak (((w.setCell ⟨g,0,none⟩ x).setCell ⟨g,1,none⟩ y).setCell ⟨g,2,none⟩ z) r b A n c E k f:=ziP h kd (NoU.s3 _ _ _ _ _ _ _) (off3 _ _ _ _ _)
theorem blk_far3 {w:World}{g g':Nat}{t:TypeId}{cs:Array Value}(h:Blk w g t cs)(a:g≠g')(x y z:Value):Blk (((w.setCell ⟨g',0,none⟩ x).setCell ⟨g',1,none⟩ y).setCell ⟨g',2,none⟩ z) g t cs:=((h.far (p:=⟨g',0,none⟩) a x).far (p:=⟨g',1,none⟩) a y).far (p:=⟨g',2,none⟩) a z
theorem cell_q1 {w:World}{ad:Addr}{k:Nat}{v:Value}(h:w.cell? (ad.add (k+1))=some v):w.cell? ⟨(ad.add k).block,(ad.add k).off+1,none⟩=some v:=by
 rw [<-Go.Deep.add_add] at h;exact h
theorem cell_q2 {w:World}{ad:Addr}{k:Nat}{v:Value}(h:w.cell? (ad.add (k+2))=some v):w.cell? ⟨(ad.add k).block,(ad.add k).off+2,none⟩=some v:=by
 rw [<-Go.Deep.add_add] at h;exact h
theorem rat_sum (rs:List Rat)(A:oA9)(n c K:Nat)(w:World)(hT:zam w)(h:ziz w A n c rs)(hn:n<=1073741824)(hK:K<=67108864)(he:∀i,i<n->SzQ K (rs.getD i 0))(hs:∀k,k<=n->SzQ K (zik (rs.take k))):
  Calls prog 106 #[.slice A n c] w (zaP w (zik rs)):=by
 have z:=up9 w (λw' h=>hT.on h);have HN:=up9 w (λw' hb=>h.below hb);have HS:=lh9 hs;have HE:=lh9 he;have y:=lh9 (λk (hk:k<n)=>zri rs k (by rw [h.len];exact hk));have HF:Hid (zik (rs.take n)=zik rs):=by
  show _=_;rw [List.take_of_length_le (by rw [h.len];exact Nat.le_refl _)]
 clear h hs he hT;go_enter func106,ntmps106;go_wp2_with fail;obtain⟨hB,a,hp,b5⟩:=zbg w 53 53 #[.bool false,.slice none 0 0,.slice none 0 0] #[.bool false,.slice none 0 0,.slice none 0 0];generalize hV:(w.alloc (.cells #[.bool false,.slice none 0 0,.slice none 0 0] 53)).alloc (.cells #[.bool false,.slice none 0 0,.slice none 0 0] 53)=V1 at*;clear hV b5;obtain⟨gp,u⟩:∃g,w.heap.size+1=g:=⟨_,rfl⟩;rw [u] at hp⊢;have hgw:w.heap.size<gp:=om9
 go_loopg [9] (n+1) (λg ix wr=>∃(k:Nat) (b:Bool) (Ap:oA9) (np cp:Nat) (Ep:oA9) (kp fp:Nat),k<=n/\n<g+k/\ix=.int .i64 k/\zak wr (zik (rs.take k)) b Ap np cp Ep kp fp/\Blk wr gp 53 #[.bool b,.slice Ap np cp,.slice Ep kp fp]/\Below w.heap.size w wr/\Blk wr w.heap.size 53 #[.bool false,.slice none 0 0,.slice none 0 0])
 case atStart=>exact⟨0,false,none,0,0,none,0,0,Nat.zero_le _,om9,rfl,zfK _,hp,hB,a⟩
 case round=>
  clear hp hB a u;obtain⟨k,b,Ap,np,cp,Ep,kp,fp,l,hg,rfl,hw,hp,hB,a⟩:=hrel;by_cases hlt:k<n
  ·obtain⟨ad,b1,B1,m1,d1,E1,u1,v1,rfl,hadb,C,f,j,hx⟩:=(HN.out _ hB).num k hlt;have HM:=up9 wr (λw' hb=>zpI (zik (rs.take k)) (rs.getD k 0) b Ap np cp Ep kp fp b1 B1 m1 d1 E1 u1 v1 w' (z.out _ (zac hB hb)) (hw.below hb) (hx.below hb) (SzQ.fit (HS.out k l) hw hK) (SzQ.fit (HE.out k hlt) hx hK));have f:=cell_q1 f;have j:=cell_q2 j;have i1:(0:Int)<=(k:Int):=om9;have i2:(k:Int)<(n:Int):=om9;obtain⟨p0,p1,p2⟩:=hp.c3;obtain⟨st,d2,d3⟩:=zaD wr 53 #[.bool b1,.slice B1 m1 d1,.slice E1 u1 v1];obtain⟨q0,q1,q2⟩:=d2.c3;have p3:=zae st p0;have p4:=zae st p1;have p5:=zae st p2;have r:=lh9 (HM.out _ st);have o:=lh9 (zac hB st);have s:=lh9 (zad st hp);have p:=lh9 (zad st a);clear hw hx hB hp a HM st d2 d3;go_wp2_with fail;refine r.out.mono ?_;rintro e w3 ⟨b3,A3,n3,c3,E3,k3,f3,rfl,m,hb⟩;rw [<-y.out k hlt] at m;have t:=zac o.out hb;have d:=zad hb s.out;have x:=zad hb p.out;obtain⟨G,J,H,L,I,M⟩:=st3 d (.bool b3) (.slice A3 n3 c3);have F:=zoK m d (.bool b3) (.slice A3 n3 c3) (.slice E3 k3 f3);have B:=bl3 (.bool b3) (.slice A3 n3 c3) (.slice E3 k3 f3) (by show w.heap.size<=gp;omega) t;have E:=sn3 d (.bool b3) (.slice A3 n3 c3) (.slice E3 k3 f3);have D:=blk_far3 x (by show w.heap.size≠gp;omega) (.bool b3) (.slice A3 n3 c3) (.slice E3 k3 f3);clear hb t d x m r o s p C f j p0 p1 p2 p3 p4 p5 q0 q1 q2;go_wp2;go_roundg (n - k)
   case measure=>omega
   case rel=>exact⟨k+1,b3,A3,n3,c3,E3,k3,f3,om9,om9,by go_num,F,E,B,D⟩
  ·have l:k=n:=om9;subst l;rw [HF.out] at hw;obtain⟨p0,p1,p2⟩:=hp.c3;obtain⟨G,J,H,L,I,M⟩:=st3 a (.bool b) (.slice Ap np cp);obtain⟨r0,r1,r2⟩:=(sn3 a (.bool b) (.slice Ap np cp) (.slice Ep kp fp)).c3;have HG:=lh9 (gq3 hw a hB (Nat.le_refl _));clear hw hp a hB;go_wp2;refine bodyPost_ret (v:=.agg #[.bool b,.slice Ap np cp,.slice Ep kp fp]) (by simp [results,results106,go_sem,r0,r1,r2]) rfl ?_;exact HG.out
open Go Go.RowKit Go.Proofs.Tryz
set_option maxHeartbeats 16000000
set_option maxRecDepth 100000
set_option linter.unusedVariables false
set_option linter.unusedSimpArgs false
theorem zlO (p:Int)(w:World)(hT:zam w)(c: -9223372036854775808<=p)(d:p<=9223372036854775807):
  Calls prog 47 #[.int .i64 p] w (zaP w (p:Rat)):=by
 have g:=lh9 (zca (T:=zam));have HT:=up9 w (λw' hb=>hT.on hb);have HTB:=HT;obtain⟨K,i⟩:∃K,67108864=K:=⟨_,rfl⟩;have hKK:K<=67108864:=om9;have hK0:0<K:=om9;clear hT i;go_enter func47,ntmps47;have hB:=Below.refl w.heap.size w;obtain⟨a,b,bz⟩:=zaD w 53 #[.bool false,.slice none 0 0,.slice none 0 0];have hB:=zac hB a;have k1:=b;clear a b bz;go_wp2_with fail;generalize w.alloc (.cells #[.bool false,.slice none 0 0,.slice none 0 0] 53)=W1 at*;have HZ2:Hid (Sz (1) (p).natAbs):=(by show Int.natAbs p<18446744073709551616^1;have e1: -9223372036854775808<=p:=c;have e2:p<=9223372036854775807:=d;omega);(with_reducible refine(g.out.of p _ (HT.out _ hB) c d).mono ?_);rintro e wc2 ⟨b2,B2,m2,d2,rfl,f,hb⟩;have hB:=zac hB hb;have k1:=zad hb k1;have h:=lh9 f;clear hb f;obtain⟨sc0,sf0,sc1,sf1,sc2,sf2⟩:=st3 k1 (.bool b2) (.slice B2 m2 d2);obtain⟨r0,r1,r2⟩:=(sn3 k1 (.bool b2) (.slice B2 m2 d2) (.slice none 0 0)).c3;have HG:=lh9 (gq3 (zfT h.out) k1 hB om9);go_wp2;refine bodyPost_ret (v:=.agg #[.bool b2,.slice B2 m2 d2,.slice none 0 0]) (by simp [results,results47,go_sem,r0,r1,r2]) rfl ?_;exact HG.out
open Go Go.RowKit Go.Proofs.Tryz
set_option maxHeartbeats 16000000
set_option linter.unusedVariables false
section
variable {K K':Nat}{x y:Rat}{b b':Bool}{A A':oA9}{n n' c c':Nat}{E E':oA9}{k k' f f':Nat}{w:World}
theorem q_mul (hT:zam w)(h:zak w x b A n c E k f)(h':zak w y b' A' n' c' E' k' f')(z:SzQ K x)(z':SzQ K' y)(hK:K<=67108864:=by omega)(a:K'<=67108864:=by omega):
  Calls prog 56 #[.agg #[.bool b,.slice A n c,.slice E k f],.agg #[.bool b',.slice A' n' c',.slice E' k' f']] w (zaP w (x*y)):=rat_mul x y b A n c E k f b' A' n' c' E' k' f' w hT h h' (z.fit h hK) (z'.fit h' a)
theorem q_cmp (hT:zam w)(h:zak w x b A n c E k f)(h':zak w y b' A' n' c' E' k' f')(z:SzQ K x)(z':SzQ K' y)(hK:K<=67108864:=by omega)(a:K'<=67108864:=by omega):
  Calls prog 164 #[.agg #[.bool b,.slice A n c,.slice E k f],.agg #[.bool b',.slice A' n' c',.slice E' k' f']] w (zcl w (zgx x y)):=zpJ x y b A n c E k f b' A' n' c' E' k' f' w hT h h' (z.fit h hK) (z'.fit h' a)
theorem q_same {t:Bool}(e:decide (x=y)=t)(hT:zam w)(h:zak w x b A n c E k f)(h':zak w y b' A' n' c' E' k' f')(z:SzQ K x)(z':SzQ K' y)(hK:K<=67108864:=by omega)(a:K'<=67108864:=by omega):
  Calls prog 55 #[.agg #[.bool b,.slice A n c,.slice E k f],.agg #[.bool b',.slice A' n' c',.slice E' k' f']] w (λe w'=>e=.returned (.bool t)/\Below w.heap.size w w'):=zaz e (zno x y b A n c E k f b' A' n' c' E' k' f' w hT h h' (z.fit h hK) (z'.fit h' a))
end
theorem en_mul:∀(args:Array Value) (w':World),Sem.run prog (callFunc 56 args) w'=.ok (.enter 56 args) w':=Go.Proofs.enters_of func56 kr9 rfl
theorem zaL.rats {w:World}{A:oA9}{n c:Nat}{xs:List Rat}(h:zaL w A n c xs):ziz w A n c xs:=⟨h.len,h.fits,h.most,λi hi=>h.at_ hi 0⟩
theorem sum_is (rs:List Rat):zik rs=zdM rs:=rfl
theorem q_sum {K n c:Nat}{A:oA9}{xs:List Rat}{w:World}(hT:zam w)(h:zaL w A n c xs)(hx:zaI K xs)(hn:n<=1073741824)(hK:1+n*(K+1)<=67108864):
  Calls prog 106 #[.slice A n c] w (zaP w (zdM xs)):=by
 have hl:=h.len;have e:=sum_is xs;rw [<-e];refine rat_sum xs A n c (1+n*(K+1)) w hT h.rats hn hK (λi hi=>(hx.at_ om9).up ?_) (λk hk=>?_)
 ·have:K+1<=n*(K+1):=Nat.le_mul_of_pos_left _ om9;omega
 ·rw [sum_is];exact take_sz hx hl k hk
theorem znF {w:World}{g:Nat}{t:TypeId}{x:Rat}{b:Bool}{A:oA9}{n c:Nat}{E:oA9}{k f:Nat}(h:Blk w g t #[.bool b,.slice A n c,.slice E k f])(hx:zak w x b A n c E k f):zaL w (some ⟨g,0,none⟩) 1 1 [x]:=
 ⟨rfl,Nat.le_refl _,de9,λi y hi=>by
  have h0:i=0:=by
   have:=(List.getElem?_eq_some_iff.1 hi).1;simpa using this
  subst h0;obtain rfl:x=y:=by simpa using hi
  exact⟨_,b,A,n,c,E,k,f,rfl,h.lt,by rw [zaF];exact h.cell 0,by rw [zaF];exact h.cell 1,by rw [zaF];exact h.cell 2,hx⟩⟩
open Go Go.RowKit Go.Proofs.Tryz
set_option maxHeartbeats 16000000
set_option maxRecDepth 100000
set_option linter.unusedVariables false
set_option linter.unusedSimpArgs false
def zcs (w:World)(z:Int)(b:Bool)(A:oA9)(n c:Nat):Prop:=b=decide (z<0)/\zal w z.natAbs A n c
theorem zcs.below {w w':World}{z:Int}{b:Bool}{A:oA9}{n c:Nat}(h:zcs w z b A n c)(hb:Below w.heap.size w w'):zcs w' z b A n c:=⟨h.1,h.2.below hb⟩
theorem zcs.to {w:World}{z z':Int}{b:Bool}{A:oA9}{n c:Nat}(e:z=z')(h:zcs w z b A n c):zcs w z' b A n c:=e▸h
theorem zkC {w:World}{A:oA9}{n g:Nat}{k:IntKind}{l:List Nat}{t:TypeId}{cs:Array Value}(h:zav w w.heap.size 1 A n (zaw k l))(hk:Blk w g t cs)(a:∀v ∈ cs.toList,∀z,v≠.int k z):0<n->∀ad,A=some ad->ad.block≠g:=λhn ad e hg=>by
 have hl:=h.len_;obtain⟨ad',e',_,hc⟩:=h.2 hn;rw [e] at e';injection e' with e';subst e';have h0:=hc 0 (.int k (l.getD 0 0:Nat)) (zcO k _ 0 om9);have e0:ad.add 0=ad:=by unfold Addr.add;rw [if_pos rfl]
 rw [e0] at h0;obtain⟨bk,off,pr⟩:=ad;simp only at hg;subst hg;unfold Blk at hk;cases pr with
 |none=>
   rw [show w.cell? ⟨bk,off,none⟩=cs[off]? from cell_of_row w bk off _ t (0,0) hk,<-Array.getElem?_toList] at h0;exact a _ (List.mem_of_getElem? h0) _ rfl
 |some q=>simp [World.cell?,hk] at h0
theorem ziW {w:World}{A:oA9}{n c x:Nat}(h:zal w x A n c){p:Addr}(hp:0<n->∀ad,A=some ad->ad.block≠p.block)(u:Value):zal (w.setCell p u) x A n c:=by
 obtain⟨hr,h1,h2⟩:=h;refine⟨⟨hr.1,λhn=>?_⟩,h1,h2⟩;obtain⟨ad,e,hb,hc⟩:=hr.2 hn;refine⟨ad,e,by simpa using hb,λj v hv=>?_⟩;refine(World.cell?_setCell_other w p _ u (λe2=>hp hn ad e ?_)).trans (hc j v hv);have:=congrArg Addr.block e2;rw [zan] at this
 first|exact this|exact this.symm
theorem ziX {w:World}{x:Nat}{p:Bool}{A q:oA9}{n c r s g:Nat}{t:TypeId}(h:zal w x A n c)(hk:Blk w g t #[.bool p,.slice q r s])(p':Bool)(q':oA9)(r' s':Nat):
  zal ((w.setCell ⟨g,0,none⟩ (.bool p')).setCell ⟨g,1,none⟩ (.slice q' r' s')) x A n c:=by
 have h1:=ziW (p:=⟨g,0,none⟩) h (zkC h.1 hk (by intro v hv;simp at hv;rcases hv with rfl|rfl<;>intro z e<;>cases e)) (.bool p');exact ziW (p:=⟨g,1,none⟩) h1 (zkC h1.1 (hk.set_ 0 (.bool p')) (by intro v hv;simp at hv;rcases hv with rfl|rfl<;>intro z e<;>cases e)) _
def sgI (s:Bool)(x:Nat):Int:=if s then -(x:Int) else(x:Int)
theorem zhs (s:Bool)(x:Nat):(sgI s x).natAbs=x:=by unfold sgI;split<;>omega
theorem sgI_neg (s:Bool)(x:Nat):decide (sgI s x<0)=(s&&decide (0<x)):=by unfold sgI;cases s<;>simp
theorem len16_ne {w:World}{x:Nat}{A:oA9}{n c:Nat}(h:zal w x A n c):decide (0<n)=decide (0<x):=by
 rw [h.len];by_cases hx:x=0
 ·subst hx;rfl
 ·have:=(zhT (b:=65536) de9 x hx).1;rw [decide_eq_true (by omega:0<x),decide_eq_true om9]
def zix (w:World)(z:Int)(A:oA9)(n c:Nat)(e:Ending)(w':World):Prop:=∃b:Bool,e=.returned (.agg #[.bool b,.slice A n c])/\zcs w' z b A n c/\Below w.heap.size w w'
theorem zdx (s:Bool)(x:Nat)(A:oA9)(n c:Nat)(w:World)(h:zal w x A n c)(hn:n<=1099511627776):
  Calls prog 140 #[.bool s,.slice A n c] w (zix w (sgI s x) A n c):=by
 obtain⟨hB,b2,b5⟩:=zaD w 58 #[.bool false,.slice none 0 0];have hh:=h.below hB;have f:=sgI_neg s x;rw [<-len16_ne h] at f;have b:=lh9 f;have g:=lh9 (zhs s x);clear h f;cases s
 ·go_enter func140,ntmps140;generalize hW:w.alloc (.cells #[.bool false,.slice none 0 0] 58)=W0 at*;have a:=(b2.set_ 0 (.bool false)).set_ 1 (.slice A n c);have r0:=a.cell 0;have r1:=a.cell 1;have c0:=b2.cell 0;have f0:=b2.frozen 0;have c1:(W0.setCell ⟨w.heap.size,0,none⟩ (.bool false)).cell? ⟨w.heap.size,1,none⟩=some (.slice none 0 0):=(b2.set_ 0 (.bool false)).cell 1;have f1:=(b2.set_ 0 (.bool false)).frozen 1;have HG : Hid (zix w (sgI false x) A n c (.returned (.agg #[.bool false,.slice A n c])) ((W0.setCell ⟨w.heap.size,0,none⟩ (.bool false)).setCell ⟨w.heap.size,1,none⟩ (.slice A n c))) :=
   ⟨false,rfl,⟨by rw [b.out];rfl,by rw [g.out];exact ziX hh b2 _ _ _ _⟩,zag _ (Nat.le_refl _) (zag _ (Nat.le_refl _) hB)⟩
  clear a b2 hh hB;go_wp2;refine bodyPost_ret (v:=.agg #[.bool false,.slice A n c]) (by simp [results,results140,go_sem,r0,r1]) rfl ?_;exact HG.out
 ·have hd:decide ((0:Int)<(n:Int))=decide (0<n):=by by_cases h:0<n<;>simp [h]
  obtain⟨d,i⟩:∃d,decide (0<n)=d:=⟨_,rfl⟩;rw [i] at hd b;have hd3:decide ((n:Int)>0)=d:=hd;go_enter func140,ntmps140;generalize hW:w.alloc (.cells #[.bool false,.slice none 0 0] 58)=W0 at*;have a:=(b2.set_ 0 (.bool d)).set_ 1 (.slice A n c);have r0:=a.cell 0;have r1:=a.cell 1;have c0:=b2.cell 0;have f0:=b2.frozen 0;have c1:(W0.setCell ⟨w.heap.size,0,none⟩ (.bool d)).cell? ⟨w.heap.size,1,none⟩=some (.slice none 0 0):=(b2.set_ 0 (.bool d)).cell 1;have f1:=(b2.set_ 0 (.bool d)).frozen 1;have HG : Hid (zix w (sgI true x) A n c (.returned (.agg #[.bool d,.slice A n c])) ((W0.setCell ⟨w.heap.size,0,none⟩ (.bool d)).setCell ⟨w.heap.size,1,none⟩ (.slice A n c))) :=
   ⟨d,rfl,⟨by rw [b.out];rfl,by rw [g.out];exact ziX hh b2 _ _ _ _⟩,zag _ (Nat.le_refl _) (zag _ (Nat.le_refl _) hB)⟩
  clear a b2 hh hB;go_wp2;refine bodyPost_ret (v:=.agg #[.bool d,.slice A n c]) (by simp [results,results140,go_sem,r0,r1]) rfl ?_;exact HG.out
