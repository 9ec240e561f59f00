/- What this claim leans on. -/
import Derived.Test.YtkiedljcgkoaiaaGreatDoorRVRow
import Derived.Test.YtkiedljcgkoaiaaGreatDoorRMeet3
import Derived.Test.YtkiedljcgkoaiaaGreatDoorRBunR
import Derived.Test.YtkiedljcgkoaiaaGreatDoorRBunY
import Derived.Deep.Slices
namespace Go.Proofs.YtkiedljcgkoaiaaGreatDoor
open Go Go.RowKit
set_option maxHeartbeats 16000000
set_option linter.unusedVariables false
def qOf (p q : Int) : Rat:=Rat.divInt p (if q = 0 then 1 else q)
theorem zko (p : Int) : qOf p 0 = (p : Rat):=by
 unfold qOf
 rw [if_pos rfl]
 exact Rat.ext (by rw [Rat.num_divInt,Rat.num_intCast]; simp) (by rw [Rat.den_divInt,Rat.den_intCast]; simp)
theorem qOf_ne {p q : Int} (h : q ≠ 0) : qOf p q = Rat.divInt p q:=by unfold qOf; rw [if_neg h]
theorem zdG {z : Int} (h1 : -9223372036854775808 ≤ z) (h2 : z ≤ 9223372036854775807) : Sz 1 z.natAbs:=by
 show z.natAbs < 18446744073709551616 ^ 1
 rw [Nat.pow_one]
 omega
theorem zhh {p q : Int} (hp1 : -9223372036854775808 ≤ p) (hp2 : p ≤ 9223372036854775807) (hq1 : -9223372036854775808 ≤ q) (hq2 : q ≤ 9223372036854775807) : SzQ 1 (qOf p q):=by
 unfold qOf
 refine SzQ.made (zdG hp1 hp2) ?_ (by decide)
 split
 ·exact zdG (by decide) (by decide)
 ·exact zdG hq1 hq2
def zcH (rs : List Rat) : Rat:=rs.foldl (fun a b => a + b) 0
theorem zmK (rs : List Rat) (a : Rat) : rs.foldl (fun a b => a + b) a = a + zcH rs:=by
 unfold zcH
 induction rs generalizing a with
 | nil => exact (Rat.add_zero a).symm
 | cons r t ih =>
   rw [List.foldl_cons,List.foldl_cons,ih (a + r),ih (0 + r),Rat.zero_add,Rat.add_assoc]
theorem zlD (r : Rat) (rs : List Rat) : zcH (r :: rs) = r + zcH rs:=by
 show (r :: rs).foldl (fun a b => a + b) 0 = _
 rw [List.foldl_cons,zmK,Rat.zero_add]
def dotQ (xs ys : List Rat) : Rat:=zcH (List.zipWith (fun a b => a * b) xs ys)
def addL (xs ys : List Rat) : List Rat:=List.zipWith (fun a b => a + b) xs ys
def subL (xs ys : List Rat) : List Rat:=List.zipWith (fun a b => a - b) xs ys
def zfN (xs ys : List Rat) : List Rat:=List.zipWith (fun a b => a * b) xs ys
def zbl (xs : List Rat) (r : Rat) (ys : List Rat) : List Rat:=List.zipWith (fun a b => a + r * b) xs ys
def zcM (r : Rat) (xs : List Rat) : List Rat:=xs.map fun x => r * x
theorem zgw {xs ys : List Rat} {f : Rat → Rat → Rat} {n : Nat} (h : xs.length = n) (k : ys.length = n) : (List.zipWith f xs ys).length = n:=by rw [List.length_zipWith,h,k,Nat.min_self]
def zdP : List Rat → List Rat → Int
 | [],[] => 0
 | [],_ :: _ => -1
 | _ :: _,[] => 1
 | x :: xs,y :: ys => if x = y then zdP xs ys else zeX x y
theorem cmpQ_ne {x y : Rat} (h : x ≠ y) : zeX x y ≠ 0:=fun e => h ((cmpQ_eq x y).1 e)
theorem ziK : ∀ (xs ys : List Rat),zdP xs ys = 0 ↔ xs = ys
 | [],[] => by simp [zdP]
 | [],_ :: _ => by simp [zdP]
 | _ :: _,[] => by simp [zdP]
 | x :: xs,y :: ys => by
   unfold zdP
   by_cases h : x = y
   ·rw [if_pos h,ziK xs ys,h]; simp
   ·rw [if_neg h]
    constructor
    ·intro e; exact absurd e (cmpQ_ne h)
    ·intro e; injection e with e1 e2; exact absurd e1 h
theorem zmC {x y : Rat} {xs ys : List Rat} (h : x = y) : zdP (x :: xs) (y :: ys) = zdP xs ys:=by
 show (if x = y then zdP xs ys else zeX x y) = _
 exact if_pos h
theorem zkX {x y : Rat} {xs ys : List Rat} (h : x ≠ y) : zdP (x :: xs) (y :: ys) = zeX x y:=by
 show (if x = y then zdP xs ys else zeX x y) = _
 exact if_neg h
theorem zcU {xs : List Rat} {k : Nat} (h : k < xs.length) : xs.drop k = xs.getD k 0 :: xs.drop (k + 1):=by
 rw [List.drop_eq_getElem_cons h,List.getD_eq_getElem?_getD,List.getElem?_eq_getElem h]; rfl
theorem zgI {xs ys : List Rat} {k : Nat} (hx : k < xs.length) (hy : k < ys.length) (h : xs.getD k 0 = ys.getD k 0) : zdP (xs.drop k) (ys.drop k) = zdP (xs.drop (k + 1)) (ys.drop (k + 1)):=by
 rw [zcU hx,zcU hy,zmC h]
theorem zgk {xs ys : List Rat} {k : Nat} (hx : k < xs.length) (hy : k < ys.length) (h : xs.getD k 0 ≠ ys.getD k 0) : zdP (xs.drop k) (ys.drop k) = zeX (xs.getD k 0) (ys.getD k 0):=by
 rw [zcU hx,zcU hy,zkX h]
def cmpN (a b : Nat) : Int:=if a < b then -1 else if a = b then 0 else 1
theorem cmpV_end {xs ys : List Rat} {k : Nat} (hk : k = min xs.length ys.length) : zdP (xs.drop k) (ys.drop k) = cmpN xs.length ys.length:=by
 unfold cmpN
 by_cases h1 : xs.length < ys.length
 ·rw [if_pos h1,List.drop_of_length_le (by omega),zcU (xs:=ys) (by omega)]; rfl
 ·rw [if_neg h1]
  by_cases h2 : xs.length = ys.length
  ·rw [if_pos h2,List.drop_of_length_le (by omega),List.drop_of_length_le (by omega)]; rfl
  ·rw [if_neg h2,List.drop_of_length_le (l:=ys) (by omega),zcU (xs:=xs) (by omega)]; rfl
def zcW (n : Nat) (rs : List Rat) (vs : List (List Rat)) : List Rat:=(List.zip rs vs).foldl (fun s p => zbl s p.1 p.2) (List.replicate n 0)
theorem zgE (r : Rat) : ∀ (xs : List Rat),zbl (List.replicate xs.length 0) r xs = zcM r xs
 | [] => rfl
 | x :: xs => by
   show (0 + r * x) :: zbl (List.replicate xs.length 0) r xs = (r * x) :: zcM r xs
   rw [Rat.zero_add,zgE r xs]
theorem zhT : ∀ (xs ys : List Rat),zbl xs 1 ys = addL xs ys
 | [],[] => rfl
 | [],_ :: _ => rfl
 | _ :: _,[] => rfl
 | x :: xs,y :: ys => by show (x + 1 * y) :: zbl xs 1 ys = (x + y) :: addL xs ys; rw [Rat.one_mul,zhT xs ys]
theorem zhS : ∀ (xs ys : List Rat),zbl xs (-1) ys = subL xs ys
 | [],[] => rfl
 | [],_ :: _ => rfl
 | _ :: _,[] => rfl
 | x :: xs,y :: ys => by
   show (x + (-1) * y) :: zbl xs (-1) ys = (x - y) :: subL xs ys
   rw [Rat.neg_mul,Rat.one_mul,Rat.sub_eq_add_neg,zhS xs ys]
def zax (K : Nat) (xs : List Rat) : Prop:=∀ x ∈ xs,SzQ K x
theorem zax.at_ {K : Nat} {xs : List Rat} (h : zax K xs) {k : Nat} (hk : k < xs.length) : SzQ K (xs.getD k 0):=by
 rw [List.getD_eq_getElem?_getD,List.getElem?_eq_getElem hk]
 exact h _ (List.getElem_mem hk)
theorem zax.up {K K' : Nat} {xs : List Rat} (h : zax K xs) (e : K ≤ K') : zax K' xs:=fun x hx => (h x hx).up e
theorem zax.zip {K K' L : Nat} {f : Rat → Rat → Rat} (hf : ∀ x y,SzQ K x → SzQ K' y → SzQ L (f x y)) : ∀ {xs ys : List Rat},zax K xs → zax K' ys → zax L (List.zipWith f xs ys)
 | [],_,_,_ => fun x hx => by cases hx
 | _ :: _,[],_,_ => fun x hx => by cases hx
 | x :: xs,y :: ys,h,k => fun z hz => by
   rw [List.zipWith_cons_cons] at hz
   rcases List.mem_cons.1 hz with rfl | hz
   ·exact hf x y (h x List.mem_cons_self) (k y List.mem_cons_self)
   ·exact zax.zip hf (fun a ha => h a (List.mem_cons_of_mem _ ha)) (fun a ha => k a (List.mem_cons_of_mem _ ha)) z hz
theorem zax.add {K K' : Nat} {xs ys : List Rat} (h : zax K xs) (k : zax K' ys) : zax (K + K' + 1) (addL xs ys):=zax.zip (fun _ _ => SzQ.add) h k
theorem zax.sub {K K' : Nat} {xs ys : List Rat} (h : zax K xs) (k : zax K' ys) : zax (K + K' + 1) (subL xs ys):=zax.zip (fun _ _ => SzQ.sub) h k
theorem zax.mul {K K' : Nat} {xs ys : List Rat} (h : zax K xs) (k : zax K' ys) : zax (K + K') (zfN xs ys):=zax.zip (fun _ _ => SzQ.mul) h k
theorem zax.addT {K K' L : Nat} {r : Rat} {xs ys : List Rat} (h : zax K xs) (hr : SzQ L r) (k : zax K' ys) : zax (K + (L + K') + 1) (zbl xs r ys):=zax.zip (fun _ _ a b => a.add (hr.mul b)) h k
theorem zax.scale {K L : Nat} {r : Rat} {xs : List Rat} (hr : SzQ L r) (h : zax K xs) : zax (L + K) (zcM r xs):=fun x hx => by
 obtain ⟨y,hy,rfl⟩:=List.mem_map.1 hx
 exact hr.mul (h y hy)
theorem zjl {K : Nat} : ∀ {xs : List Rat},zax K xs → SzQ (1 + xs.length * (K + 1)) (zcH xs)
 | [],_ => by rw [List.length_nil,Nat.zero_mul]; exact SzQ.zero
 | x :: xs,h => by
   rw [zlD]
   exact ((h x List.mem_cons_self).add (zjl fun a ha => h a (List.mem_cons_of_mem _ ha))).up (by rw [List.length_cons,Nat.succ_mul]; omega)
theorem zms {K n : Nat} {xs : List Rat} (h : zax K xs) (hl : xs.length = n) (k : Nat) (hk : k ≤ n) : SzQ (1 + n * (K + 1)) (zcH (xs.take k)):=by
 have h1:=zjl (xs:=xs.take k) (K:=K) (fun a ha => h a (List.mem_of_mem_take ha))
 refine h1.up ?_
 rw [List.length_take]
 have : min k xs.length * (K + 1) ≤ n * (K + 1):=Nat.mul_le_mul_right _ (by omega)
 omega
theorem dot_sz {K K' n : Nat} {xs ys : List Rat} (hx : xs.length = n) (hy : ys.length = n) (h : zax K xs) (k : zax K' ys) : SzQ (1 + n * (K + K' + 1)) (dotQ xs ys):=by
 have:=zjl (zax.mul h k)
 rw [show (zfN xs ys).length = n from zgw hx hy] at this
 exact this
theorem zjw {xs ys : List Rat} {n : Nat} {r : Rat} (hx : xs.length = n) (hy : ys.length = n) : (zbl xs r ys).length = n:=zgw hx hy
set_option maxRecDepth 100000
set_option linter.unusedSimpArgs false
theorem zec (f : Rat → Rat → Rat) (F : FuncId) (cap : Array Value) (xs ys : List Rat) (A B : oA9) (n c d : Nat) (w : World) (ha : zbk w A n c xs) (hb : zbk w B n d ys) (hn : n ≤ 1073741824)
  (hEn : ∀ (args : Array Value) (w' : World),Sem.run Tryz.prog (callFunc F args) w' = .ok (.enter F args) w')
  (hF : ∀ i,i < n → ∀ w',Below w.heap.size w w' → ∀ (b b' : Bool) (A A' : oA9) (n n' c c' : Nat) (E E' : oA9) (k k' f9 f9' : Nat),zao w' (xs.getD i 0) b A n c E k f9 → zao w' (ys.getD i 0) b' A' n' c' E' k' f9' →
    Calls Tryz.prog F (#[.agg #[.bool b,.slice A n c,.slice E k f9],.agg #[.bool b',.slice A' n' c',.slice E' k' f9']] ++ cap) w' (zaK w' (f (xs.getD i 0) (ys.getD i 0)))) :
  Calls Tryz.prog 44 #[.slice A n c,.slice B n d,.func (.func F) #[] cap] w (zcP w n (List.zipWith f xs ys)):=by
 have hla:=ha.len
 have hlb:=hb.len
 have hlz : (List.zipWith f xs ys).length = n:=zgw hla hlb
 unfold zcP
 have HGI : ∀ i,i < n → (List.zipWith f xs ys)[i]? = some (f (xs.getD i 0) (ys.getD i 0)):=fun i hi => by
  rw [List.getElem?_zipWith,List.getD_eq_getElem?_getD,List.getD_eq_getElem?_getD,List.getElem?_eq_getElem (by omega),List.getElem?_eq_getElem (by omega)]; rfl
 obtain ⟨zs,hzs⟩ : ∃ zs,List.zipWith f xs ys = zs:=⟨_,rfl⟩
 rw [hzs] at HGI hlz ⊢
 have HG:=lh9 HGI
 have HLZ:=lh9 hlz
 have HF:=lh9 hF
 have HA:=lh9 ha
 have HB9:=lh9 hb
 obtain ⟨Z,hZ⟩:=zes n (by omega)
 have hmk:=fun W => (hZ W).1
 have HOWN:=lh9 (fun W => (hZ W).2)
 clear hF ha hb hla hlb hlz hzs HGI hZ
 have hd0 : ((n : Int) != (n : Int)) = false:=by simp
 have i0 : (0 : Int) ≤ (n : Int):=by omega
 go_enter Tryz.func44,Tryz.ntmps44
 go_wp2_with fail
 clear hmk
 have hrow:=HOWN.out w
 have hB : Below w.heap.size w (w.alloc (.cells Z 44)):=(Below.refl _ w).alloc (Nat.le_refl _) _
 obtain ⟨gp,hgp⟩ : ∃ g,w.heap.size = g:=⟨_,rfl⟩
 have hwg : w.heap.size ≤ gp:=by omega
 have hz : gp + 1 ≤ (w.alloc (.cells Z 44)).heap.size:=by simp [hgp]
 rw [hgp] at hrow ⊢
 rw [← zdl 0 zs n] at hrow
 generalize w.alloc (.cells Z 44) = W1 at *
 clear hgp HOWN
 go_loopg [21] (n + 1) (fun g ix wr => ∃ (k : Nat),k ≤ n ∧ n < g + k ∧ ix = .int .i64 k ∧ zct wr gp n (zcm 0 zs n k) ∧ Below w.heap.size w wr)
 case atStart => exact ⟨0,Nat.zero_le _,by omega,rfl,hrow,hB⟩
 case round =>
  clear hrow hB hz
  obtain ⟨k,hkn,hg,rfl,hrow,hB⟩:=hrel
  by_cases hlt : k < n
  ·obtain ⟨ad,b1,B1,m1,d1,E1,u1,v1,rfl,-,hc0,hc1,hc2,hx⟩:=HA.out.get hB hlt
   obtain ⟨ae,b2,B2,m2,d2,E2,u2,v2,rfl,hae,he0,he1,he2,hy⟩:=HB9.out.get hB hlt
   have hd1 : decide ((k : Int) < (n : Int)) = true:=by simp; omega
   have i1 : (0 : Int) ≤ (k : Int):=by omega
   have i2 : (k : Int) < (n : Int):=by omega
   have hgr:=hrow.lt
   obtain ⟨st,d3,d4⟩:=zaL wr 44 #[.bool b1,.slice B1 m1 d1,.slice E1 u1 v1]
   have HBX:=lh9 d3
   have HX:=lh9 (hx.below st)
   have HY:=lh9 (hy.below st)
   have HROW:=lh9 (hrow.keep st)
   have HB1:=lh9 (zac hB st)
   have HE:=lh9 (And.intro (zad st he0) (And.intro (zad st he1) (zad st he2)))
   clear hx hy hrow hB st d3 d4 he0 he1 he2
   go_wp2_with fail
   clear hc0 hc1 hc2
   generalize wr.alloc (.cells #[.bool b1,.slice B1 m1 d1,.slice E1 u1 v1] 44) = W2 at *
   generalize wr.heap.size = gb at *
   obtain ⟨p0,p1,p2⟩:=HBX.out.c3
   obtain ⟨e0,e1,e2⟩:=HE.out
   have hBw:=(Below.refl W2.heap.size W2).drew
   have hne:=off_add (k:=k * 3) (show ae.block ≠ gp by omega)
   refine rg (csc p0 (csc p1 (csc p2 (csc e0 (csc e1 (csc e2 csn)))))) (fun hHeld => ?_)
   refine tk 0 ?_
   refine tk 1 ?_
   refine tk 2 ?_
   refine tk 3 ?_
   refine tk 4 ?_
   refine tk 5 ?_
   refine tk 6 ?_
   refine tk 7 ?_
   refine rc 8 (fun K hK => ?_)
   go_simp
   refine (HF.out k hlt _ (zac HB1.out hBw) _ _ _ _ _ _ _ _ _ _ _ _ _ _ (HX.out.below hBw) (HY.out.below hBw)).mono ?_
   rintro e w3 ⟨b3,A3,n3,c3,E3,k3,f3,rfl,hw3,hb⟩
   have hBw:=zac hBw hb
   refine hK.out _ _ (Cs.below hHeld hb) (fun hHeld => ?_); clear hK K hb
   refine tk 9 ?_
   have hr3:=HROW.out.keep hBw
   obtain ⟨q0,q1,q2,sc0,sf0,sc1,sf1,sc2,sf2⟩:=hr3.ready hlt (.bool b3) (.slice A3 n3 c3)
   refine rc 10 (fun K hK => ?_)
   go_simp
   have hr4:=zaR.set_ zcb hr3 hlt hw3
   rw [zdR 0 zs n k HLZ.out hlt _ (HG.out k hlt)] at hr4
   have hB4:=zdh (k * 3) (k * 3 + 1) (k * 3 + 2) (.bool b3) (.slice A3 n3 c3) (.slice E3 k3 f3) hwg (zac HB1.out hBw)
   refine hK.out _ _ (Cs.far hHeld (offg3 _ _ _ _ _ _ _ _) (by refine ⟨?_,?_,?_,hne,hne,hne,trivial⟩ <;> (show gb ≠ gp; omega))) (fun hHeld => ?_); clear hK K
   refine rdn ?_
   have HR4:=lh9 hr4
   have HB4:=lh9 hB4
   clear hr4 hB4 hr3 hHeld hBw hw3 sc0 sf0 sc1 sf1 sc2 sf2 p0 p1 p2 e0 e1 e2 HBX HX HY HROW HB1 HE
   go_wp2
   go_roundg (n - k)
   case measure => omega
   case rel => exact ⟨k + 1,by omega,by omega,by go_num,HR4.out,HB4.out⟩
  ·have hk : k = n:=by omega
   subst hk
   have hd1 : decide ((k : Int) < (k : Int)) = false:=by simp
   have HR:=lh9 (zdQ 0 zs k HLZ.out ▸ hrow)
   have HB1:=lh9 hB
   clear hrow hB
   go_wp2
   go_ret2
   exact ⟨gp,rfl,hwg,HR.out,HB1.out⟩
theorem zno (x mm : Nat) (A : oA9) (n c : Nat) (w : World) (hA : zaj w x A n c) (hn : n ≤ 274877906944) (hm0 : 0 < mm) (hm1 : mm ≤ 32768) :
  Calls Tryz.prog 123 #[.slice A n c,.int .i64 mm] w (zhO w x mm):=by
 obtain ⟨i0,hi0,hz0,hz1,hz2⟩:=info_parts zgX
 have HLN:=lh9 hA.len
 have hR:=hA.1
 clear hA
 obtain ⟨Z,hZ⟩ : ∃ Z,madeCells (Value.cells (.int .i64 0)) (n * i0.size) = Z:=⟨_,rfl⟩
 have HZ : Hid (Z.size = n):=by show _ = _; rw [← hZ,size_madeCells,hz1,Nat.mul_one]
 have hmk : ∀ W : World,(Instr.makeSlice 31 (.int .i64 (n : Int)) (.int .i64 (n : Int))).run Tryz.prog W = .ok (.slice (some ⟨W.heap.size,0,none⟩) n n) (W.alloc (.cells Z 3)):=fun W => by
  rw [← hZ]; exact zaS _ _ i0 _ Tryz.underlying31 hi0 hz0 _ _ n n (Nat.le_refl _) (by rw [hz2]; omega) (by omega) W
 clear hZ
 go_enter Tryz.func123,Tryz.ntmps123
 go_wp2
 clear hmk
 go_loopg [7,8,9] (n + 1) (fun g s i _ wr => ∃ (k left : Nat) (cs : Array Value) (out : List Nat),k ≤ n ∧ k < g ∧ i = .int .i64 ((k : Int) - 1) ∧ s = .int .i64 left ∧ zdM x mm n k out left ∧
   Blk wr w.heap.size 3 cs ∧ cs.size = n ∧ cs.toList.drop k = zat .i64 out ∧ Below w.heap.size w wr)
 case atStart => exact ⟨n,0,Z,[],Nat.le_refl _,by omega,rfl,rfl,zdM.start hm0 (by have:=HLN.out; omega),Blk.new w _ _,HZ.out,by rw [List.drop_of_length_le (by have:=HZ.out; simp; omega)]; rfl,(Below.refl _ _).alloc (Nat.le_refl _) _⟩
 case round =>
  obtain ⟨k,left,cs,out,hk,hg,rfl,rfl,hat,hB,hsz,hdr,hbl⟩:=hrel
  by_cases hk0 : k = 0
  ·subst hk0
   obtain ⟨f1,f2⟩:=hat.done
   have hlen : out.length = n:=by have:=hat.len; omega
   have hrd : zas wr wr.heap.size 1 (some ⟨w.heap.size,0,none⟩) n (zat .i64 out):=by
    refine ⟨by rw [zaz]; omega,fun _ => ⟨_,rfl,hB.lt,fun j u hu => ?_⟩⟩
    have e : (⟨w.heap.size,0,none⟩ : Addr).add j = ⟨w.heap.size,j,none⟩:=by unfold Addr.add; split <;> simp_all
    rw [e,hB.cell j,← Array.getElem?_toList]
    rw [List.drop_zero] at hdr
    rw [hdr]; exact hu
   have T:=zfR (some ⟨w.heap.size,0,none⟩) n n out wr hrd hat.dgs (Nat.le_refl _) (by omega) (by omega)
   rw [f1] at T
   have HT:=lh9 T
   have F2:=lh9 f2
   clear T hrd f1 f2 hat hdr hsz hlen
   go_wp2_with fail
   refine HT.out.mono ?_
   intro e w2 hg2
   have hg3:=hg2.from_ hbl
   obtain ⟨A2,n2,c2,rfl,hh2,hb2⟩:=hg2.elim
   have HG3:=lh9 hg3
   clear hg2 hh2 hb2 hg3
   go_wp2_with fail
   go_ret2
   exact ⟨_,by rw [← F2.out]; rfl,HG3.out⟩
  ·obtain ⟨j,rfl⟩ : ∃ j,k = j + 1:=⟨k - 1,by omega⟩
   obtain ⟨ad,rfl,hadb,hc0⟩:=zbe hR (k:=j) (by omega)
   have hc1 : wr.cell? (ad.add j) = some (.int .i64 ((dg 65536 x).getD j 0 : Nat)):=(hbl.cell (by rw [zay]; exact hadb)).trans hc0
   rw [zen] at hc1
   have ha1 : x / 65536 ^ j % 65536 < 65536:=Nat.mod_lt _ (by decide)
   have hst:=hat.step hk rfl
   have hleft:=hat.rest
   obtain ⟨a,ha⟩ : ∃ b,x / 65536 ^ j % 65536 = b:=⟨_,rfl⟩
   rw [ha] at hc1 ha1 hst
   have hfr:=hB.frozen j
   have hcell : ∃ u,wr.cell? ⟨w.heap.size,j,none⟩ = some u:=by
    rw [hB.cell j]
    exact ⟨cs[j]'(by omega),Array.getElem?_eq_getElem (by omega)⟩
   obtain ⟨u,hu⟩:=hcell
   have HST:=lh9 hst
   have HS:=lh9 hsz
   have HD:=lh9 hdr
   clear hst ha hat hc0 hsz hdr
   go_wp2
   go_roundg (j + 1)
   case measure => omega
   case rel => exact ⟨j,(left * 65536 + a) % mm,cs.setIfInBounds j (.int .i64 (((left : Int) * 65536 + (a : Int)) / (mm : Int))),_,by omega,by omega,by go_num,by go_num,HST.out,hB.set_ _ _,by simpa using HS.out,by rw [drop_set _ _ _ (by have:=HS.out; omega),HD.out]; simp [zat],hbl.setCell (Nat.le_refl _) _⟩
def BackD (b x y : Nat) (D : List Nat) : Prop:=D ++ dg b y = dg b x
theorem BackD.step {b x y : Nat} {D : List Nat} (h : BackD b x y D) (hb : 2 ≤ b) (hy : y ≠ 0) : BackD b x (y / b) (D ++ [y % b]):=by
 unfold BackD at h ⊢
 rw [← h,zdj hb hy,List.append_assoc]
 rfl
end Go.Proofs.YtkiedljcgkoaiaaGreatDoor
