/- What this claim leans on. -/
import Derived.Test.YtedbgdlbgohiiaaGreatDoorBJ8Add
import Derived.Deep.Slices
namespace Go.Proofs.YtedbgdlbgohiiaaGreatDoor
open Go Go.RowKit
set_option maxHeartbeats 16000000
set_option linter.unusedVariables false
def qOf (p q : Int) : Rat:=Rat.divInt p (if q = 0 then 1 else q)
theorem qOf_zero (p : Int) : qOf p 0 = (p : Rat):=by
 unfold qOf
 rw [if_pos rfl]
 exact Rat.ext (by rw [Rat.num_divInt,Rat.num_intCast]; simp) (by rw [Rat.den_divInt,Rat.den_intCast]; simp)
theorem qOf_ne {p q : Int} (h : q ≠ 0) : qOf p q = Rat.divInt p q:=by unfold qOf; rw [if_neg h]
theorem zfN {z : Int} (h1 : -9223372036854775808 ≤ z) (h2 : z ≤ 9223372036854775807) : Sz 1 z.natAbs:=by
 show z.natAbs < 18446744073709551616 ^ 1
 rw [Nat.pow_one]
 omega
theorem qOf_sz {p q : Int} (hp1 : -9223372036854775808 ≤ p) (hp2 : p ≤ 9223372036854775807) (hq1 : -9223372036854775808 ≤ q) (hq2 : q ≤ 9223372036854775807) : SzQ 1 (qOf p q):=by
 unfold qOf
 refine SzQ.made (zfN hp1 hp2) ?_ (by decide)
 split
 ·exact zfN (by decide) (by decide)
 ·exact zfN hq1 hq2
def zcI (rs : List Rat) : Rat:=rs.foldl (fun a b => a + b) 0
theorem zmX (rs : List Rat) (a : Rat) : rs.foldl (fun a b => a + b) a = a + zcI rs:=by
 unfold zcI
 induction rs generalizing a with
 | nil => exact (Rat.add_zero a).symm
 | cons r t ih =>
   rw [List.foldl_cons,List.foldl_cons,ih (a + r),ih (0 + r),Rat.zero_add,Rat.add_assoc]
theorem ziB : zcI [] = 0:=rfl
theorem zdU (r : Rat) (rs : List Rat) : zcI (r :: rs) = r + zcI rs:=by
 show (r :: rs).foldl (fun a b => a + b) 0 = _
 rw [List.foldl_cons,zmX,Rat.zero_add]
def zfv (xs ys : List Rat) : Rat:=zcI (List.zipWith (fun a b => a * b) xs ys)
theorem zif (x : Rat) (xs : List Rat) (y : Rat) (ys : List Rat) : zfv (x :: xs) (y :: ys) = x * y + zfv xs ys:=by
 show zcI (List.zipWith _ (x :: xs) (y :: ys)) = _
 rw [List.zipWith_cons_cons,zdU]
 rfl
def addL (xs ys : List Rat) : List Rat:=List.zipWith (fun a b => a + b) xs ys
def mulL (xs ys : List Rat) : List Rat:=List.zipWith (fun a b => a * b) xs ys
theorem zmD {xs ys : List Rat} {f : Rat → Rat → Rat} {n : Nat} (h : xs.length = n) (k : ys.length = n) : (List.zipWith f xs ys).length = n:=by rw [List.length_zipWith,h,k,Nat.min_self]
def zdO : List Rat → List Rat → Int
 | [],[] => 0
 | [],_ :: _ => -1
 | _ :: _,[] => 1
 | x :: xs,y :: ys => if x = y then zdO xs ys else zeU x y
theorem cmpQ_ne {x y : Rat} (h : x ≠ y) : zeU x y ≠ 0:=fun e => h ((cmpQ_eq x y).1 e)
theorem ziQ : ∀ (xs ys : List Rat),zdO xs ys = 0 ↔ xs = ys
 | [],[] => by simp [zdO]
 | [],_ :: _ => by simp [zdO]
 | _ :: _,[] => by simp [zdO]
 | x :: xs,y :: ys => by
   unfold zdO
   by_cases h : x = y
   ·rw [if_pos h,ziQ xs ys,h]; simp
   ·rw [if_neg h]
    constructor
    ·intro e; exact absurd e (cmpQ_ne h)
    ·intro e; injection e with e1 e2; exact absurd e1 h
theorem zmM {x y : Rat} {xs ys : List Rat} (h : x = y) : zdO (x :: xs) (y :: ys) = zdO xs ys:=by
 show (if x = y then zdO xs ys else zeU x y) = _
 exact if_pos h
theorem zkT {x y : Rat} {xs ys : List Rat} (h : x ≠ y) : zdO (x :: xs) (y :: ys) = zeU x y:=by
 show (if x = y then zdO xs ys else zeU x y) = _
 exact if_neg h
theorem zcT {xs : List Rat} {k : Nat} (h : k < xs.length) : xs.drop k = xs.getD k 0 :: xs.drop (k + 1):=by
 rw [List.drop_eq_getElem_cons h,List.getD_eq_getElem?_getD,List.getElem?_eq_getElem h]; rfl
theorem zgV {xs ys : List Rat} {k : Nat} (hx : k < xs.length) (hy : k < ys.length) (h : xs.getD k 0 = ys.getD k 0) : zdO (xs.drop k) (ys.drop k) = zdO (xs.drop (k + 1)) (ys.drop (k + 1)):=by
 rw [zcT hx,zcT hy,zmM h]
theorem zgA {xs ys : List Rat} {k : Nat} (hx : k < xs.length) (hy : k < ys.length) (h : xs.getD k 0 ≠ ys.getD k 0) : zdO (xs.drop k) (ys.drop k) = zeU (xs.getD k 0) (ys.getD k 0):=by
 rw [zcT hx,zcT hy,zkT h]
def cmpN (a b : Nat) : Int:=if a < b then -1 else if a = b then 0 else 1
theorem cmpV_end {xs ys : List Rat} {k : Nat} (hk : k = min xs.length ys.length) : zdO (xs.drop k) (ys.drop k) = cmpN xs.length ys.length:=by
 unfold cmpN
 by_cases h1 : xs.length < ys.length
 ·rw [if_pos h1,List.drop_of_length_le (by omega),zcT (xs:=ys) (by omega)]; rfl
 ·rw [if_neg h1]
  by_cases h2 : xs.length = ys.length
  ·rw [if_pos h2,List.drop_of_length_le (by omega),List.drop_of_length_le (by omega)]; rfl
  ·rw [if_neg h2,List.drop_of_length_le (l:=ys) (by omega),zcT (xs:=xs) (by omega)]; rfl
def zgk (x : Rat) : Nat:=bitLen x.num.natAbs + bitLen x.den
def zcs (xs : List Rat) : Nat:=xs.foldl (fun m x => max m (zgk x)) 0
theorem zgU (xs : List Rat) (k : Nat) (h : k < xs.length) : zcs (xs.take (k + 1)) = max (zcs (xs.take k)) (zgk (xs.getD k 0)):=by
 unfold zcs
 rw [List.take_succ_eq_append_getElem h,List.foldl_append,List.getD_eq_getElem?_getD,List.getElem?_eq_getElem h]
 rfl
def zav (K : Nat) (xs : List Rat) : Prop:=∀ x ∈ xs,SzQ K x
theorem zav.at_ {K : Nat} {xs : List Rat} (h : zav K xs) {k : Nat} (hk : k < xs.length) : SzQ K (xs.getD k 0):=by
 rw [List.getD_eq_getElem?_getD,List.getElem?_eq_getElem hk]
 exact h _ (List.getElem_mem hk)
theorem zav.up {K K' : Nat} {xs : List Rat} (h : zav K xs) (e : K ≤ K') : zav K' xs:=fun x hx => (h x hx).up e
theorem zav.zip {K K' L : Nat} {f : Rat → Rat → Rat} (hf : ∀ x y,SzQ K x → SzQ K' y → SzQ L (f x y)) : ∀ {xs ys : List Rat},zav K xs → zav K' ys → zav L (List.zipWith f xs ys)
 | [],_,_,_ => fun x hx => by cases hx
 | _ :: _,[],_,_ => fun x hx => by cases hx
 | x :: xs,y :: ys,h,k => fun z hz => by
   rw [List.zipWith_cons_cons] at hz
   rcases List.mem_cons.1 hz with rfl | hz
   ·exact hf x y (h x List.mem_cons_self) (k y List.mem_cons_self)
   ·exact zav.zip hf (fun a ha => h a (List.mem_cons_of_mem _ ha)) (fun a ha => k a (List.mem_cons_of_mem _ ha)) z hz
theorem zav.add {K K' : Nat} {xs ys : List Rat} (h : zav K xs) (k : zav K' ys) : zav (K + K' + 1) (addL xs ys):=zav.zip (fun _ _ => SzQ.add) h k
theorem zav.mul {K K' : Nat} {xs ys : List Rat} (h : zav K xs) (k : zav K' ys) : zav (K + K') (mulL xs ys):=zav.zip (fun _ _ => SzQ.mul) h k
theorem zlR {K : Nat} : ∀ {xs : List Rat},zav K xs → SzQ (1 + xs.length * (K + 1)) (zcI xs)
 | [],_ => by rw [List.length_nil,Nat.zero_mul]; exact SzQ.zero
 | x :: xs,h => by
   rw [zdU]
   exact ((h x List.mem_cons_self).add (zlR fun a ha => h a (List.mem_cons_of_mem _ ha))).up (by rw [List.length_cons,Nat.succ_mul]; omega)
theorem take_sz {K n : Nat} {xs : List Rat} (h : zav K xs) (hl : xs.length = n) (k : Nat) (hk : k ≤ n) : SzQ (1 + n * (K + 1)) (zcI (xs.take k)):=by
 have h1:=zlR (xs:=xs.take k) (K:=K) (fun a ha => h a (List.mem_of_mem_take ha))
 refine h1.up ?_
 rw [List.length_take]
 have : min k xs.length * (K + 1) ≤ n * (K + 1):=Nat.mul_le_mul_right _ (by omega)
 omega
theorem dot_sz {K K' n : Nat} {xs ys : List Rat} (hx : xs.length = n) (hy : ys.length = n) (h : zav K xs) (k : zav K' ys) : SzQ (1 + n * (K + K' + 1)) (zfv xs ys):=by
 have:=zlR (zav.mul h k)
 rw [show (mulL xs ys).length = n from zmD hx hy] at this
 exact this
set_option maxRecDepth 100000
set_option linter.unusedSimpArgs false
structure zgO (w : World) (A : oA9) (n c : Nat) (rs : List Rat) : Prop where
 len : rs.length = n
 fits : n ≤ c
 most : c ≤ 9223372036854775807
 num : ∀ i,i < n → ∃ (ad : Addr) (b : Bool) (B : oA9) (m d : Nat) (E : oA9) (u v : Nat),A = some ad ∧ ad.block < w.heap.size ∧ w.cell? (ad.add (i * 3)) = some (.bool b) ∧ w.cell? (ad.add (i * 3 + 1)) = some (.slice B m d) ∧ w.cell? (ad.add (i * 3 + 2)) = some (.slice E u v) ∧ zai w (rs.getD i 0) b B m d E u v
theorem zgO.below {w w' : World} {A : oA9} {n c : Nat} {rs : List Rat} (h : zgO w A n c rs) (hb : Below w.heap.size w w') : zgO w' A n c rs :=
 ⟨h.len,h.fits,h.most,fun i hi => by
  obtain ⟨ad,b,B,m,d,E,u,v,e,h1,h2,h3,h4,h5⟩:=h.num i hi
  exact ⟨ad,b,B,m,d,E,u,v,e,Nat.lt_of_lt_of_le h1 hb.size,zab hb h2,zab hb h3,zab hb h4,h5.below hb⟩⟩
def zgD (rs : List Rat) : Rat:=rs.foldl (fun a b => a + b) 0
theorem znL (rs : List Rat) (r : Rat) : zgD (rs ++ [r]) = zgD rs + r:=by unfold zgD; rw [List.foldl_append]; rfl
theorem znM (rs : List Rat) (k : Nat) (h : k < rs.length) : zgD (rs.take (k + 1)) = zgD (rs.take k) + rs.getD k 0:=by
 rw [List.take_succ_eq_append_getElem h,znL,List.getD_eq_getElem?_getD,List.getElem?_eq_getElem h]
 rfl
theorem zlE {w : World} {r : Rat} {b : Bool} {A E : oA9} {n c k f g : Nat} {t : TypeId} {p : Bool} {q q2 : oA9} {r1 s r2 s2 : Nat} (h : zai w r b A n c E k f) (kd : Blk w g t #[.bool p,.slice q r1 s,.slice q2 r2 s2]) (x y z : Value) :
  zai (((w.setCell ⟨g,0,none⟩ x).setCell ⟨g,1,none⟩ y).setCell ⟨g,2,none⟩ z) r b A n c E k f:=zhc h kd (NoU.s3 _ _ _ _ _ _ _) (off3 _ _ _ _ _)
theorem blk_far3 {w : World} {g g' : Nat} {t : TypeId} {cs : Array Value} (h : Blk w g t cs) (hne : g ≠ g') (x y z : Value) : Blk (((w.setCell ⟨g',0,none⟩ x).setCell ⟨g',1,none⟩ y).setCell ⟨g',2,none⟩ z) g t cs:=((h.far (p:=⟨g',0,none⟩) hne x).far (p:=⟨g',1,none⟩) hne y).far (p:=⟨g',2,none⟩) hne z
theorem cell_q1 {w : World} {ad : Addr} {k : Nat} {v : Value} (h : w.cell? (ad.add (k + 1)) = some v) : w.cell? ⟨(ad.add k).block,(ad.add k).off + 1,none⟩ = some v:=by
 rw [← Go.Deep.add_add] at h
 exact h
theorem cell_q2 {w : World} {ad : Addr} {k : Nat} {v : Value} (h : w.cell? (ad.add (k + 2)) = some v) : w.cell? ⟨(ad.add k).block,(ad.add k).off + 2,none⟩ = some v:=by
 rw [← Go.Deep.add_add] at h
 exact h
theorem rat_sum (rs : List Rat) (A : oA9) (n c K : Nat) (w : World) (hT : zaj w) (h : zgO w A n c rs) (hn : n ≤ 1073741824) (hK : K ≤ 67108864) (he : ∀ i,i < n → SzQ K (rs.getD i 0)) (hs : ∀ k,k ≤ n → SzQ K (zgD (rs.take k))) :
  Calls Tryz.prog 68 #[.slice A n c] w (zaI w (zgD rs)):=by
 have HTB:=lh9 (fun w' (h : Below w.heap.size w w') => hT.on h)
 have HN:=lh9 (fun w' (hb : Below w.heap.size w w') => h.below hb)
 have HS:=lh9 hs
 have HE:=lh9 he
 have HSU:=lh9 (fun k (hk : k < n) => znM rs k (by rw [h.len]; exact hk))
 have HF : Hid (zgD (rs.take n) = zgD rs):=by
  show _ = _
  rw [List.take_of_length_le (by rw [h.len]; exact Nat.le_refl _)]
 clear h hs he hT
 go_enter Tryz.func68,Tryz.ntmps68
 go_wp2_with fail
 obtain ⟨hB,hk1,hp,b5⟩:=zbo w 48 48 #[.bool false,.slice none 0 0,.slice none 0 0] #[.bool false,.slice none 0 0,.slice none 0 0]
 generalize hV : (w.alloc (.cells #[.bool false,.slice none 0 0,.slice none 0 0] 48)).alloc (.cells #[.bool false,.slice none 0 0,.slice none 0 0] 48) = V1 at *
 clear hV b5
 obtain ⟨gp,hgp⟩ : ∃ g,w.heap.size + 1 = g:=⟨_,rfl⟩
 rw [hgp] at hp ⊢
 have hgw : w.heap.size < gp:=by omega
 go_loopg [9] (n + 1) (fun g ix wr => ∃ (k : Nat) (b : Bool) (Ap : oA9) (np cp : Nat) (Ep : oA9) (kp fp : Nat),k ≤ n ∧ n < g + k ∧ ix = .int .i64 k ∧ zai wr (zgD (rs.take k)) b Ap np cp Ep kp fp ∧ Blk wr gp 48 #[.bool b,.slice Ap np cp,.slice Ep kp fp] ∧ Below w.heap.size w wr ∧ Blk wr w.heap.size 48 #[.bool false,.slice none 0 0,.slice none 0 0])
 case atStart => exact ⟨0,false,none,0,0,none,0,0,Nat.zero_le _,by omega,rfl,zgv _,hp,hB,hk1⟩
 case round =>
  clear hp hB hk1 hgp
  obtain ⟨k,b,Ap,np,cp,Ep,kp,fp,hkn,hg,rfl,hw,hp,hB,hk1⟩:=hrel
  by_cases hlt : k < n
  ·obtain ⟨ad,b1,B1,m1,d1,E1,u1,v1,rfl,hadb,hc0,hc1,hc2,hx⟩:=(HN.out _ hB).num k hlt
   have HM:=lh9 (fun w' (hb : Below wr.heap.size wr w') => zmt (zgD (rs.take k)) (rs.getD k 0) b Ap np cp Ep kp fp b1 B1 m1 d1 E1 u1 v1 w' (HTB.out _ (zaa hB hb)) (hw.below hb) (hx.below hb) (SzQ.fit (HS.out k hkn) hw hK) (SzQ.fit (HE.out k hlt) hx hK))
   have hc1:=cell_q1 hc1
   have hc2:=cell_q2 hc2
   have i1 : (0 : Int) ≤ (k : Int):=by omega
   have i2 : (k : Int) < (n : Int):=by omega
   obtain ⟨p0,p1,p2⟩:=hp.c3
   obtain ⟨st,d2,d3⟩:=zaC wr 48 #[.bool b1,.slice B1 m1 d1,.slice E1 u1 v1]
   obtain ⟨q0,q1,q2⟩:=d2.c3
   have p3:=zab st p0
   have p4:=zab st p1
   have p5:=zab st p2
   have HM2:=lh9 (HM.out _ st)
   have HB1:=lh9 (zaa hB st)
   have HP1:=lh9 (zac st hp)
   have HK2:=lh9 (zac st hk1)
   clear hw hx hB hp hk1 HM st d2 d3
   go_wp2_with fail
   refine HM2.out.mono ?_
   rintro e w3 ⟨b3,A3,n3,c3,E3,k3,f3,rfl,hw3,hb⟩
   rw [← HSU.out k hlt] at hw3
   have hB3:=zaa HB1.out hb
   have hp3:=zac hb HP1.out
   have hk3:=zac hb HK2.out
   obtain ⟨sc0,sf0,sc1,sf1,sc2,sf2⟩:=st3 hp3 (.bool b3) (.slice A3 n3 c3)
   have hw4:=zlE hw3 hp3 (.bool b3) (.slice A3 n3 c3) (.slice E3 k3 f3)
   have hB4:=bl3 (.bool b3) (.slice A3 n3 c3) (.slice E3 k3 f3) (by show w.heap.size ≤ gp; omega) hB3
   have hp4:=sn3 hp3 (.bool b3) (.slice A3 n3 c3) (.slice E3 k3 f3)
   have hk4:=blk_far3 hk3 (by show w.heap.size ≠ gp; omega) (.bool b3) (.slice A3 n3 c3) (.slice E3 k3 f3)
   clear hb hB3 hp3 hk3 hw3 HM2 HB1 HP1 HK2 hc0 hc1 hc2 p0 p1 p2 p3 p4 p5 q0 q1 q2
   go_wp2
   go_roundg (n - k)
   case measure => omega
   case rel => exact ⟨k + 1,b3,A3,n3,c3,E3,k3,f3,by omega,by omega,by go_num,hw4,hp4,hB4,hk4⟩
  ·have hkn : k = n:=by omega
   subst hkn
   rw [HF.out] at hw
   obtain ⟨p0,p1,p2⟩:=hp.c3
   obtain ⟨sc0,sf0,sc1,sf1,sc2,sf2⟩:=st3 hk1 (.bool b) (.slice Ap np cp)
   obtain ⟨r0,r1,r2⟩:=(sn3 hk1 (.bool b) (.slice Ap np cp) (.slice Ep kp fp)).c3
   have HG:=lh9 (gq3 hw hk1 hB (Nat.le_refl _))
   clear hw hp hk1 hB
   go_wp2
   refine bodyPost_ret (v:=.agg #[.bool b,.slice Ap np cp,.slice Ep kp fp]) (by simp [results,Tryz.results68,go_sem,r0,r1,r2]) rfl ?_
   exact HG.out
end Go.Proofs.YtedbgdlbgohiiaaGreatDoor
