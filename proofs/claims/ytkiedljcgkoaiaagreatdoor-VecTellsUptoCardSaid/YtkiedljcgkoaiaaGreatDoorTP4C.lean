/- What this claim leans on. -/
import Derived.Test.YtkiedljcgkoaiaaGreatDoorTVRow
import Derived.Test.YtkiedljcgkoaiaaGreatDoorTMeet3
import Derived.Deep.Slices
import Derived.Laws.Concat
import Derived.Laws.IdiomCopy
namespace Go.Proofs.YtkiedljcgkoaiaaGreatDoor
open Go Go.RowKit
set_option maxHeartbeats 16000000
set_option linter.unusedVariables false
def zca (w : World) (q r : Nat) (b : Bool) (e : Ending) (w' : World) : Prop:=∃ (A : oA9) (n c : Nat) (B : oA9) (m d : Nat),e = .returned (.tuple #[.agg #[.slice A n c],.agg #[.slice B m d],.bool b]) ∧ zag w' q A n c ∧ zag w' r B m d ∧ Below w.heap.size w w'
def zdM (w : World) (x : Nat) (b : Bool) (e : Ending) (w' : World) : Prop:=∃ (A : oA9) (n c : Nat),e = .returned (.tuple #[.agg #[.slice A n c],.bool b]) ∧ zag w' x A n c ∧ Below w.heap.size w w'
def zfu (w : World) (q x : Nat) (b : Bool) (e : Ending) (w' : World) : Prop:=∃ (A : oA9) (n c : Nat),e = .returned (.tuple #[.agg #[.slice A n c],.int .u64 (x : Int),.bool b]) ∧ zag w' q A n c ∧ Below w.heap.size w w'
structure QuotC : Prop where
 divMod : ∀ (x y : Nat) (A D : oA9) (n m c d : Nat) (w : World),zag w x A n c → zag w y D m d → n ≤ 1073741824 → m ≤ 1073741824 → y ≠ 0 → Calls Tryz.prog 130 #[.agg #[.slice A n c],.agg #[.slice D m d]] w (zca w (x / y) (x % y) true)
 divModNo : ∀ (x y : Nat) (A D : oA9) (n m c d : Nat) (w : World),zag w x A n c → zag w y D m d → n ≤ 1073741824 → m ≤ 1073741824 → y = 0 → Calls Tryz.prog 130 #[.agg #[.slice A n c],.agg #[.slice D m d]] w (zca w 0 0 false)
 div : ∀ (x y : Nat) (A D : oA9) (n m c d : Nat) (w : World),zag w x A n c → zag w y D m d → n ≤ 1073741824 → m ≤ 1073741824 → y ≠ 0 → Calls Tryz.prog 109 #[.agg #[.slice A n c],.agg #[.slice D m d]] w (zdM w (x / y) true)
 mod : ∀ (x y : Nat) (A D : oA9) (n m c d : Nat) (w : World),zag w x A n c → zag w y D m d → n ≤ 1073741824 → m ≤ 1073741824 → y ≠ 0 → Calls Tryz.prog 137 #[.agg #[.slice A n c],.agg #[.slice D m d]] w (zdM w (x % y) true)
 byWord : ∀ (x a : Nat) (A : oA9) (n c : Nat) (w : World),zag w x A n c → n ≤ 1073741824 → a < 18446744073709551616 → a ≠ 0 → Calls Tryz.prog 141 #[.agg #[.slice A n c],.int .u64 a] w (zfu w (x / a) (x % a) true)
 byWordNo : ∀ (x : Nat) (A : oA9) (n c : Nat) (w : World),zag w x A n c → n ≤ 1073741824 → Calls Tryz.prog 141 #[.agg #[.slice A n c],.int .u64 0] w (zfu w 0 0 false)
def qOf (p q : Int) : Rat:=Rat.divInt p (if q = 0 then 1 else q)
theorem zkp (p : Int) : qOf p 0 = (p : Rat):=by
 unfold qOf
 rw [if_pos rfl]
 exact Rat.ext (by rw [Rat.num_divInt,Rat.num_intCast]; simp) (by rw [Rat.den_divInt,Rat.den_intCast]; simp)
theorem qOf_ne {p q : Int} (h : q ≠ 0) : qOf p q = Rat.divInt p q:=by unfold qOf; rw [if_neg h]
theorem zdH {z : Int} (h1 : -9223372036854775808 ≤ z) (h2 : z ≤ 9223372036854775807) : Sz 1 z.natAbs:=by
 show z.natAbs < 18446744073709551616 ^ 1
 rw [Nat.pow_one]
 omega
theorem qOf_sz {p q : Int} (hp1 : -9223372036854775808 ≤ p) (hp2 : p ≤ 9223372036854775807) (hq1 : -9223372036854775808 ≤ q) (hq2 : q ≤ 9223372036854775807) : SzQ 1 (qOf p q):=by
 unfold qOf
 refine SzQ.made (zdH hp1 hp2) ?_ (by decide)
 split
 ·exact zdH (by decide) (by decide)
 ·exact zdH hq1 hq2
def zfV (rs : List Rat) : Rat:=rs.foldl (fun a b => a + b) 0
theorem zmY (rs : List Rat) (a : Rat) : rs.foldl (fun a b => a + b) a = a + zfV rs:=by
 unfold zfV
 induction rs generalizing a with
 | nil => exact (Rat.add_zero a).symm
 | cons r t ih =>
   rw [List.foldl_cons,List.foldl_cons,ih (a + r),ih (0 + r),Rat.zero_add,Rat.add_assoc]
theorem zlP (r : Rat) (rs : List Rat) : zfV (r :: rs) = r + zfV rs:=by
 show (r :: rs).foldl (fun a b => a + b) 0 = _
 rw [List.foldl_cons,zmY,Rat.zero_add]
def dotQ (xs ys : List Rat) : Rat:=zfV (List.zipWith (fun a b => a * b) xs ys)
def addL (xs ys : List Rat) : List Rat:=List.zipWith (fun a b => a + b) xs ys
def mulL (xs ys : List Rat) : List Rat:=List.zipWith (fun a b => a * b) xs ys
def zgp (xs : List Rat) (r : Rat) (ys : List Rat) : List Rat:=List.zipWith (fun a b => a + r * b) xs ys
def zcs (r : Rat) (xs : List Rat) : List Rat:=xs.map fun x => r * x
theorem zip_len {xs ys : List Rat} {f : Rat → Rat → Rat} {n : Nat} (h : xs.length = n) (k : ys.length = n) : (List.zipWith f xs ys).length = n:=by rw [List.length_zipWith,h,k,Nat.min_self]
def zcI : List Rat → List Rat → Int
 | [],[] => 0
 | [],_ :: _ => -1
 | _ :: _,[] => 1
 | x :: xs,y :: ys => if x = y then zcI xs ys else zem x y
theorem zmd {x y : Rat} (h : x ≠ y) : zem x y ≠ 0:=fun e => h ((zmc x y).1 e)
theorem zfC : ∀ (xs ys : List Rat),zcI xs ys = 0 ↔ xs = ys
 | [],[] => by simp [zcI]
 | [],_ :: _ => by simp [zcI]
 | _ :: _,[] => by simp [zcI]
 | x :: xs,y :: ys => by
   unfold zcI
   by_cases h : x = y
   ·rw [if_pos h,zfC xs ys,h]; simp
   ·rw [if_neg h]
    constructor
    ·intro e; exact absurd e (zmd h)
    ·intro e; injection e with e1 e2; exact absurd e1 h
theorem zmO {x y : Rat} {xs ys : List Rat} (h : x = y) : zcI (x :: xs) (y :: ys) = zcI xs ys:=by
 show (if x = y then zcI xs ys else zem x y) = _
 exact if_pos h
theorem zlf {x y : Rat} {xs ys : List Rat} (h : x ≠ y) : zcI (x :: xs) (y :: ys) = zem x y:=by
 show (if x = y then zcI xs ys else zem x y) = _
 exact if_neg h
theorem zcT {xs : List Rat} {k : Nat} (h : k < xs.length) : xs.drop k = xs.getD k 0 :: xs.drop (k + 1):=by
 rw [List.drop_eq_getElem_cons h,List.getD_eq_getElem?_getD,List.getElem?_eq_getElem h]; rfl
theorem zer {xs ys : List Rat} {k : Nat} (hx : k < xs.length) (hy : k < ys.length) (h : xs.getD k 0 = ys.getD k 0) : zcI (xs.drop k) (ys.drop k) = zcI (xs.drop (k + 1)) (ys.drop (k + 1)):=by
 rw [zcT hx,zcT hy,zmO h]
theorem zeh {xs ys : List Rat} {k : Nat} (hx : k < xs.length) (hy : k < ys.length) (h : xs.getD k 0 ≠ ys.getD k 0) : zcI (xs.drop k) (ys.drop k) = zem (xs.getD k 0) (ys.getD k 0):=by
 rw [zcT hx,zcT hy,zlf h]
def cmpN (a b : Nat) : Int:=if a < b then -1 else if a = b then 0 else 1
theorem zjE {xs ys : List Rat} {k : Nat} (hk : k = min xs.length ys.length) : zcI (xs.drop k) (ys.drop k) = cmpN xs.length ys.length:=by
 unfold cmpN
 by_cases h1 : xs.length < ys.length
 ·rw [if_pos h1,List.drop_of_length_le (by omega),zcT (xs:=ys) (by omega)]; rfl
 ·rw [if_neg h1]
  by_cases h2 : xs.length = ys.length
  ·rw [if_pos h2,List.drop_of_length_le (by omega),List.drop_of_length_le (by omega)]; rfl
  ·rw [if_neg h2,List.drop_of_length_le (l:=ys) (by omega),zcT (xs:=xs) (by omega)]; rfl
def zaV (xs : List Rat) : Int:=if xs.all (fun x => decide (x = 0)) then -1 else (xs.findIdx (fun x => !decide (x = 0)) : Nat)
theorem zfk (xs : List Rat) : zaV xs < 0 ↔ ∀ x ∈ xs,x = 0:=by
 unfold zaV
 by_cases h : xs.all (fun x => decide (x = 0)) = true
 ·rw [if_pos h]
  constructor
  ·intro _ x hx; exact of_decide_eq_true (List.all_eq_true.1 h x hx)
  ·intro _; decide
 ·rw [if_neg h]
  constructor
  ·intro h1; omega
  ·intro h1; exact absurd (List.all_eq_true.2 fun x hx => decide_eq_true (h1 x hx)) h
theorem zgc {xs : List Rat} {k : Nat} (hk : k < xs.length) (h0 : ∀ j,j < k → xs.getD j 0 = 0) (h : xs.getD k 0 ≠ 0) : zaV xs = (k : Nat):=by
 unfold zaV
 have hg : ∀ j (hj : j < xs.length),xs.getD j 0 = xs[j]:=fun j hj => by rw [List.getD_eq_getElem?_getD,List.getElem?_eq_getElem hj]; rfl
 rw [if_neg]
 ·congr 1
  rw [List.findIdx_eq hk]
  refine ⟨by rw [hg k hk] at h; simpa using h,fun j hj => ?_⟩
  have:=h0 j hj
  rw [hg j (by omega)] at this
  simpa using this
 ·intro ha
  rw [List.all_eq_true] at ha
  rw [hg k hk] at h
  exact h (of_decide_eq_true (ha _ (List.getElem_mem hk)))
theorem zgu {xs : List Rat} (h0 : ∀ j,j < xs.length → xs.getD j 0 = 0) : zaV xs = -1:=by
 unfold zaV
 rw [if_pos]
 rw [List.all_eq_true]
 intro x hx
 obtain ⟨j,hj,rfl⟩:=List.mem_iff_getElem.1 hx
 have:=h0 j hj
 rw [List.getD_eq_getElem?_getD,List.getElem?_eq_getElem hj] at this
 exact decide_eq_true this
def zcH (xs : List Rat) : Bool:=xs.any fun x => decide (x.num < 0)
def zeg (x : Rat) : Nat:=bitLen x.num.natAbs + bitLen x.den
def zcU (xs : List Rat) : Nat:=xs.foldl (fun m x => max m (zeg x)) 0
theorem zfe (xs : List Rat) (k : Nat) (h : k < xs.length) : zcU (xs.take (k + 1)) = max (zcU (xs.take k)) (zeg (xs.getD k 0)):=by
 unfold zcU
 rw [List.take_succ_eq_append_getElem h,List.foldl_append,List.getD_eq_getElem?_getD,List.getElem?_eq_getElem h]
 rfl
theorem zgq (xs : List Rat) (k : Nat) (h : k < xs.length) : zcH (xs.take (k + 1)) = (zcH (xs.take k) || decide ((xs.getD k 0).num < 0)):=by
 unfold zcH
 rw [List.take_succ_eq_append_getElem h,List.any_append,List.getD_eq_getElem?_getD,List.getElem?_eq_getElem h]
 simp
def zbv (n : Nat) (rs : List Rat) (vs : List (List Rat)) : List Rat:=(List.zip rs vs).foldl (fun s p => zgp s p.1 p.2) (List.replicate n 0)
theorem zhJ (xs : List Rat) : zcs 0 xs = List.replicate xs.length 0:=by
 unfold zcs
 rw [List.eq_replicate_iff]
 refine ⟨by simp,fun x hx => ?_⟩
 obtain ⟨y,_,rfl⟩:=List.mem_map.1 hx
 exact Rat.zero_mul y
def zau (K : Nat) (xs : List Rat) : Prop:=∀ x ∈ xs,SzQ K x
theorem zau.at_ {K : Nat} {xs : List Rat} (h : zau K xs) {k : Nat} (hk : k < xs.length) : SzQ K (xs.getD k 0):=by
 rw [List.getD_eq_getElem?_getD,List.getElem?_eq_getElem hk]
 exact h _ (List.getElem_mem hk)
theorem zau.up {K K' : Nat} {xs : List Rat} (h : zau K xs) (e : K ≤ K') : zau K' xs:=fun x hx => (h x hx).up e
theorem zau.zip {K K' L : Nat} {f : Rat → Rat → Rat} (hf : ∀ x y,SzQ K x → SzQ K' y → SzQ L (f x y)) : ∀ {xs ys : List Rat},zau K xs → zau K' ys → zau L (List.zipWith f xs ys)
 | [],_,_,_ => fun x hx => by cases hx
 | _ :: _,[],_,_ => fun x hx => by cases hx
 | x :: xs,y :: ys,h,k => fun z hz => by
   rw [List.zipWith_cons_cons] at hz
   rcases List.mem_cons.1 hz with rfl | hz
   ·exact hf x y (h x List.mem_cons_self) (k y List.mem_cons_self)
   ·exact zau.zip hf (fun a ha => h a (List.mem_cons_of_mem _ ha)) (fun a ha => k a (List.mem_cons_of_mem _ ha)) z hz
theorem zau.add {K K' : Nat} {xs ys : List Rat} (h : zau K xs) (k : zau K' ys) : zau (K + K' + 1) (addL xs ys):=zau.zip (fun _ _ => SzQ.add) h k
theorem zau.mul {K K' : Nat} {xs ys : List Rat} (h : zau K xs) (k : zau K' ys) : zau (K + K') (mulL xs ys):=zau.zip (fun _ _ => SzQ.mul) h k
theorem zau.addT {K K' L : Nat} {r : Rat} {xs ys : List Rat} (h : zau K xs) (hr : SzQ L r) (k : zau K' ys) : zau (K + (L + K') + 1) (zgp xs r ys):=zau.zip (fun _ _ a b => a.add (hr.mul b)) h k
theorem zau.scale {K L : Nat} {r : Rat} {xs : List Rat} (hr : SzQ L r) (h : zau K xs) : zau (L + K) (zcs r xs):=fun x hx => by
 obtain ⟨y,hy,rfl⟩:=List.mem_map.1 hx
 exact hr.mul (h y hy)
theorem zlQ {K : Nat} : ∀ {xs : List Rat},zau K xs → SzQ (1 + xs.length * (K + 1)) (zfV xs)
 | [],_ => by rw [List.length_nil,Nat.zero_mul]; exact SzQ.zero
 | x :: xs,h => by
   rw [zlP]
   exact ((h x List.mem_cons_self).add (zlQ fun a ha => h a (List.mem_cons_of_mem _ ha))).up (by rw [List.length_cons,Nat.succ_mul]; omega)
theorem take_sz {K n : Nat} {xs : List Rat} (h : zau K xs) (hl : xs.length = n) (k : Nat) (hk : k ≤ n) : SzQ (1 + n * (K + 1)) (zfV (xs.take k)):=by
 have h1:=zlQ (xs:=xs.take k) (K:=K) (fun a ha => h a (List.mem_of_mem_take ha))
 refine h1.up ?_
 rw [List.length_take]
 have : min k xs.length * (K + 1) ≤ n * (K + 1):=Nat.mul_le_mul_right _ (by omega)
 omega
set_option maxRecDepth 100000
set_option linter.unusedSimpArgs false
theorem zhQ (f : Rat → Rat → Rat) (F : FuncId) (cap : Array Value) (xs ys : List Rat) (A B : oA9) (n c d : Nat) (w : World) (ha : zaQ w A n c xs) (hb : zaQ w B n d ys) (hn : n ≤ 1073741824)
  (hEn : ∀ (args : Array Value) (w' : World),Sem.run Tryz.prog (callFunc F args) w' = .ok (.enter F args) w')
  (hF : ∀ i,i < n → ∀ w',Below w.heap.size w w' → ∀ (b b' : Bool) (A A' : oA9) (n n' c c' : Nat) (E E' : oA9) (k k' f9 f9' : Nat),zan w' (xs.getD i 0) b A n c E k f9 → zan w' (ys.getD i 0) b' A' n' c' E' k' f9' →
    Calls Tryz.prog F (#[.agg #[.bool b,.slice A n c,.slice E k f9],.agg #[.bool b',.slice A' n' c',.slice E' k' f9']] ++ cap) w' (zaM w' (f (xs.getD i 0) (ys.getD i 0)))) :
  Calls Tryz.prog 44 #[.slice A n c,.slice B n d,.func (.func F) #[] cap] w (zcb w n (List.zipWith f xs ys)):=by
 have hla:=ha.len
 have hlb:=hb.len
 have hlz : (List.zipWith f xs ys).length = n:=zip_len hla hlb
 unfold zcb
 have HGI : ∀ i,i < n → (List.zipWith f xs ys)[i]? = some (f (xs.getD i 0) (ys.getD i 0)):=fun i hi => by
  rw [List.getElem?_zipWith,List.getD_eq_getElem?_getD,List.getD_eq_getElem?_getD,List.getElem?_eq_getElem (by omega),List.getElem?_eq_getElem (by omega)]; rfl
 obtain ⟨zs,hzs⟩ : ∃ zs,List.zipWith f xs ys = zs:=⟨_,rfl⟩
 rw [hzs] at HGI hlz ⊢
 have HG:=lh9 HGI
 have HLZ:=lh9 hlz
 have HF:=lh9 hF
 have HA:=lh9 ha
 have HB9:=lh9 hb
 obtain ⟨Z,hZ⟩:=zdD n (by omega)
 have hmk:=fun W => (hZ W).1
 have HOWN:=lh9 (fun W => (hZ W).2)
 clear hF ha hb hla hlb hlz hzs HGI hZ
 have hd0 : ((n : Int) != (n : Int)) = false:=by simp
 have i0 : (0 : Int) ≤ (n : Int):=by omega
 go_enter Tryz.func44,Tryz.ntmps44
 go_wp2_with fail
 clear hmk
 have hrow:=HOWN.out w
 have hB : Below w.heap.size w (w.alloc (.cells Z 44)):=(Below.refl _ w).alloc (Nat.le_refl _) _
 obtain ⟨gp,hgp⟩ : ∃ g,w.heap.size = g:=⟨_,rfl⟩
 have hwg : w.heap.size ≤ gp:=by omega
 have hz : gp + 1 ≤ (w.alloc (.cells Z 44)).heap.size:=by simp [hgp]
 rw [hgp] at hrow ⊢
 rw [← zes 0 zs n] at hrow
 generalize w.alloc (.cells Z 44) = W1 at *
 clear hgp HOWN
 go_loopg [21] (n + 1) (fun g ix wr => ∃ (k : Nat),k ≤ n ∧ n < g + k ∧ ix = .int .i64 k ∧ zcc wr gp n (zds 0 zs n k) ∧ Below w.heap.size w wr)
 case atStart => exact ⟨0,Nat.zero_le _,by omega,rfl,hrow,hB⟩
 case round =>
  clear hrow hB hz
  obtain ⟨k,hkn,hg,rfl,hrow,hB⟩:=hrel
  by_cases hlt : k < n
  ·obtain ⟨ad,b1,B1,m1,d1,E1,u1,v1,rfl,-,hc0,hc1,hc2,hx⟩:=HA.out.get hB hlt
   obtain ⟨ae,b2,B2,m2,d2,E2,u2,v2,rfl,hae,he0,he1,he2,hy⟩:=HB9.out.get hB hlt
   have hd1 : decide ((k : Int) < (n : Int)) = true:=by simp; omega
   have i1 : (0 : Int) ≤ (k : Int):=by omega
   have i2 : (k : Int) < (n : Int):=by omega
   have hgr:=hrow.lt
   obtain ⟨st,d3,d4⟩:=zaR wr 44 #[.bool b1,.slice B1 m1 d1,.slice E1 u1 v1]
   have HBX:=lh9 d3
   have HX:=lh9 (hx.below st)
   have HY:=lh9 (hy.below st)
   have HROW:=lh9 (hrow.keep st)
   have HB1:=lh9 (zac hB st)
   have HE:=lh9 (And.intro (zad st he0) (And.intro (zad st he1) (zad st he2)))
   clear hx hy hrow hB st d3 d4 he0 he1 he2
   go_wp2_with fail
   clear hc0 hc1 hc2
   generalize wr.alloc (.cells #[.bool b1,.slice B1 m1 d1,.slice E1 u1 v1] 44) = W2 at *
   generalize wr.heap.size = gb at *
   obtain ⟨p0,p1,p2⟩:=HBX.out.c3
   obtain ⟨e0,e1,e2⟩:=HE.out
   have hBw:=(Below.refl W2.heap.size W2).drew
   have hne:=off_add (k:=k * 3) (show ae.block ≠ gp by omega)
   refine rg (csc p0 (csc p1 (csc p2 (csc e0 (csc e1 (csc e2 csn)))))) (fun hHeld => ?_)
   refine tk 0 ?_
   refine tk 1 ?_
   refine tk 2 ?_
   refine tk 3 ?_
   refine tk 4 ?_
   refine tk 5 ?_
   refine tk 6 ?_
   refine tk 7 ?_
   refine rc 8 (fun K hK => ?_)
   go_simp
   refine (HF.out k hlt _ (zac HB1.out hBw) _ _ _ _ _ _ _ _ _ _ _ _ _ _ (HX.out.below hBw) (HY.out.below hBw)).mono ?_
   rintro e w3 ⟨b3,A3,n3,c3,E3,k3,f3,rfl,hw3,hb⟩
   have hBw:=zac hBw hb
   refine hK.out _ _ (Cs.below hHeld hb) (fun hHeld => ?_); clear hK K hb
   refine tk 9 ?_
   have hr3:=HROW.out.keep hBw
   obtain ⟨q0,q1,q2,sc0,sf0,sc1,sf1,sc2,sf2⟩:=hr3.ready hlt (.bool b3) (.slice A3 n3 c3)
   refine rc 10 (fun K hK => ?_)
   go_simp
   have hr4:=zbr.set_ zbG hr3 hlt hw3
   rw [zfj 0 zs n k HLZ.out hlt _ (HG.out k hlt)] at hr4
   have hB4:=zdg (k * 3) (k * 3 + 1) (k * 3 + 2) (.bool b3) (.slice A3 n3 c3) (.slice E3 k3 f3) hwg (zac HB1.out hBw)
   refine hK.out _ _ (Cs.far hHeld (offg3 _ _ _ _ _ _ _ _) (by refine ⟨?_,?_,?_,hne,hne,hne,trivial⟩ <;> (show gb ≠ gp; omega))) (fun hHeld => ?_); clear hK K
   refine rdn ?_
   have HR4:=lh9 hr4
   have HB4:=lh9 hB4
   clear hr4 hB4 hr3 hHeld hBw hw3 sc0 sf0 sc1 sf1 sc2 sf2 p0 p1 p2 e0 e1 e2 HBX HX HY HROW HB1 HE
   go_wp2
   go_roundg (n - k)
   case measure => omega
   case rel => exact ⟨k + 1,by omega,by omega,by go_num,HR4.out,HB4.out⟩
  ·have hk : k = n:=by omega
   subst hk
   have hd1 : decide ((k : Int) < (k : Int)) = false:=by simp
   have HR:=lh9 (zfi 0 zs k HLZ.out ▸ hrow)
   have HB1:=lh9 hB
   clear hrow hB
   go_wp2
   go_ret2
   exact ⟨gp,rfl,hwg,HR.out,HB1.out⟩
theorem zbq {P : Program} {f : FuncId} {args : Array Value} {w : World} {z v : Int} (e : z = v) (h : Calls P f args w (zbh w z)) : Calls P f args w fun e w' => e = .returned (.int .i64 v) ∧ Below w.heap.size w w':=by
 subst e; exact h
theorem zaw {P : Program} {f : FuncId} {args : Array Value} {w : World} {b t : Bool} (e : b = t) (h : Calls P f args w fun e w' => e = .returned (.bool b) ∧ Below w.heap.size w w') : Calls P f args w fun e w' => e = .returned (.bool t) ∧ Below w.heap.size w w':=by
 subst e; exact h
theorem inew_pos {T : World → Prop} (IC : IntC T) (x : Nat) (A : oA9) (n c : Nat) (w : World) (hT : T w) (h : zag w x A n c) (hn : n ≤ 268435456) : Calls Tryz.prog 112 #[.bool false,.agg #[.slice A n c]] w (zaO w (x : Int)) :=
 IC.new false x A n c w hT h hn
theorem zeY (v : Value) (A B : oA9) (n m c d : Nat) (w : World) (h : n ≠ m) :
  Calls Tryz.prog 44 #[.slice A n c,.slice B m d,v] w (zaT w):=by
 unfold zaT
 have hd0 : ((n : Int) != (m : Int)) = true:=by rw [bne_iff_ne]; omega
 clear h
 go_enter Tryz.func44,Tryz.ntmps44
 go_wp2
 go_ret2
 exact ⟨rfl,Below.refl _ _⟩
theorem zlU (A B : oA9) (n m c d : Nat) (w : World) (h : n ≠ m) :
  Calls Tryz.prog 14 #[.slice A n c,.slice B m d] w (zaT w):=by
 have H:=lh9 (zeY (.func (.func 38) #[] #[]) A B n m c d w h)
 clear h
 go_enter Tryz.func14,Tryz.ntmps14
 go_wp2_with fail
 refine H.out.mono ?_
 rintro e w1 ⟨rfl,hb⟩
 go_wp2
 go_ret2
 exact ⟨rfl,hb⟩
section
variable {K K' : Nat} {xs ys : List Rat} {A B : oA9} {n c d : Nat} {w : World}
end
end Go.Proofs.YtkiedljcgkoaiaaGreatDoor
