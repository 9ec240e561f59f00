/- What this claim leans on. -/
import Derived.Test.YtfieheffipfahaaGreatDoorRK9App
namespace Go.Proofs.YtfieheffipfahaaGreatDoor
open Go Go.RowKit
set_option maxHeartbeats 16000000
set_option linter.unusedVariables false
def zcp (x : Nat) : Nat:=(dg 256 x).length
theorem zeE (x : Nat) : (zcq x).length = zcp x:=zeF x
def zeb (x : Nat) : List Nat:=zcp x :: zcq x
def zbM (r : Rat) : Nat:=if r = 0 then 0 else (if r.den = 1 then 0 else 2) + (if 0 < r.num then 1 else 2)
def zhN (r : Rat) : List Nat:=if r.den = 1 then [] else zeb r.den
def numL (r : Rat) : List Nat:=if r = 0 then [] else zeb r.num.natAbs
def zgA (r : Rat) : List Nat:=zbM r :: (zhN r ++ numL r)
def Fit9 (r : Rat) : Prop:=zcp r.den ≤ 255 ∧ zcp r.num.natAbs ≤ 255
inductive Er where
 | no : Er
 | bare : Int → Er
 | spot : Int → ByteArray → Int → Er
def Er.n : Er → Int | .no => 0 | .bare n => n | .spot n _ _ => n
def Er.s : Er → ByteArray | .spot _ s _ => s | _ => { data:=#[] }
def Er.k : Er → Int | .spot _ _ k => k | _ => 0
def zdF : ByteArray:={ data:=#[110,117,109,98,101,114] }
def zef : ByteArray:={ data:=#[100,105,118,105,115,111,114] }
def sg9 (s : Bool) (x : Nat) : Int:=if s then -(x : Int) else (x : Int)
theorem zbJ (s : Bool) (x : Nat) : (sg9 s x).natAbs = x:=by unfold sg9; split <;> omega
def zce (l : List Nat) (k : Nat) : List Nat:=(l.drop (k + 1)).take (l.getD k 0)
def zax (l : List Nat) (k : Nat) : Int:=if l.length ≤ k + l.getD k 0 then 90 else if zbi (zce l k) = true ∧ zcE (zce l k) ≠ 0 then 0 else 91
def zaj (l : List Nat) (k : Nat) : Nat:=zcE (zce l k)
def zat (l : List Nat) (k : Nat) : Nat:=k + 1 + l.getD k 0
theorem zmB (l : List Nat) (k : Nat) : zce (l.drop k) 0 = zce l k:=by
 unfold zce
 rw [List.drop_drop,List.getD_eq_getElem?_getD,List.getElem?_drop,← List.getD_eq_getElem?_getD]; rfl
theorem ziG (l : List Nat) (k : Nat) : (l.drop k).getD 0 0 = l.getD k 0:=by
 rw [List.getD_eq_getElem?_getD,List.getElem?_drop,← List.getD_eq_getElem?_getD]; rfl
theorem zgj {l : List Nat} {k : Nat} (hk : k ≤ l.length) : zax (l.drop k) 0 = zax l k:=by
 unfold zax
 rw [zmB,ziG,List.length_drop]
 by_cases h : l.length ≤ k + l.getD k 0
 ·rw [if_pos h,if_pos (by omega)]
 ·rw [if_neg h,if_neg (by omega)]
theorem zox (l : List Nat) (k : Nat) : zaj (l.drop k) 0 = zaj l k:=by unfold zaj; rw [zmB]
theorem znm (l : List Nat) (k : Nat) : zax l k = 0 ∨ zax l k = 90 ∨ zax l k = 91:=by
 unfold zax
 split
 ·exact .inr (.inl rfl)
 ·split
  ·exact .inl rfl
  ·exact .inr (.inr rfl)
theorem low_form {r : Rat} (h1 : r.den ≠ 1) : ¬ (r.den = 1 ∨ Nat.gcd r.num.natAbs r.den ≠ 1):=by
 rintro (h | h)
 ·exact h1 h
 ·exact h (show Nat.gcd r.num.natAbs r.den = 1 from r.reduced)
theorem zhg {l : List Nat} {k : Nat} (hd : Dgs 256 l) (h : zax l k = 0) : zaj l k ≠ 0 ∧ zcp (zaj l k) ≤ 255 ∧ zat l k ≤ l.length ∧ l.take (zat l k) = l.take k ++ zeb (zaj l k) ∧ zat l k = k + (zeb (zaj l k)).length:=by
 unfold zax at h
 by_cases h1 : l.length ≤ k + l.getD k 0
 ·rw [if_pos h1] at h; exact absurd h (by decide)
 ·rw [if_neg h1] at h
  by_cases h2 : zbi (zce l k) = true ∧ zcE (zce l k) ≠ 0
  ·have hdm : Dgs 256 (zce l k):=fun d hd' => hd d (List.mem_of_mem_drop (List.mem_of_mem_take hd'))
   have hb : zcq (zaj l k) = zce l k:=zmb hdm h2.1
   have hn : zcp (zaj l k) = l.getD k 0:=by rw [← zeE,hb]; unfold zce; rw [List.length_take,List.length_drop]; omega
   have hk : k < l.length:=by omega
   have hlt : l.getD k 0 < 256:=by rw [List.getD_eq_getElem?_getD,List.getElem?_eq_getElem hk]; exact hd _ (List.getElem_mem hk)
   refine ⟨h2.2,by omega,by unfold zat; omega,?_,?_⟩
   ·unfold zat
    have e1 : l.take (k + 1 + l.getD k 0) = l.take k ++ ((l.drop k).take (1 + l.getD k 0)):=by rw [Nat.add_assoc,List.take_add]
    rw [e1]
    congr 1
    rw [List.drop_eq_getElem_cons hk,Nat.add_comm 1,List.take_succ_cons]
    unfold zeb
    rw [hb,hn]
    congr 1
    rw [List.getD_eq_getElem?_getD,List.getElem?_eq_getElem hk]; rfl
   ·unfold zat zeb; rw [List.length_cons,zeE,hn]; omega
  ·rw [if_neg h2] at h; exact absurd h (by decide)
def zdf (l : List Nat) : Er × Rat × Nat :=
 if l = [] then (.bare 90,0,0)
 else if 4 < l.getD 0 0 then (.bare 91,0,0)
 else if l.getD 0 0 = 0 then (.no,0,1)
 else if l.getD 0 0 ≤ 2 then (if zax l 1 = 0 then (.no,((sg9 (decide (l.getD 0 0 = 2)) (zaj l 1) : Int) : Rat),zat l 1) else (.spot (zax l 1) zdF 1,0,0))
 else if zax l 1 ≠ 0 then (.spot (zax l 1) zef 1,0,0)
 else if zax l (zat l 1) ≠ 0 then (.spot (zax l (zat l 1)) zdF (zat l 1),0,0)
 else if zaj l 1 = 1 ∨ Nat.gcd (zaj l (zat l 1)) (zaj l 1) ≠ 1 then (.bare 91,0,0)
 else (.no,Rat.divInt (sg9 (decide (l.getD 0 0 = 4)) (zaj l (zat l 1))) (zaj l 1 : Nat),zat l (zat l 1))
theorem zoT {s : Bool} {x : Nat} (hx : x ≠ 0) : 0 < sg9 s x ↔ s = false:=by unfold sg9; cases s <;> simp <;> omega
theorem dec_back {l : List Nat} (hd : Dgs 256 l) {r : Rat} {n : Nat} (h : zdf l = (.no,r,n)) : Fit9 r ∧ 1 ≤ n ∧ n ≤ l.length ∧ zgA r = l.take n:=by
 unfold zdf at h
 by_cases hl : l = []
 ·rw [if_pos hl] at h; cases h
 obtain ⟨b,t,rfl⟩ : ∃ b t,l = b :: t:=by cases l with
  | nil => exact absurd rfl hl
  | cons b t => exact ⟨b,t,rfl⟩
 have hg : (b :: t).getD 0 0 = b:=rfl
 rw [if_neg hl,hg] at h
 by_cases h4 : 4 < b
 ·rw [if_pos h4] at h; cases h
 rw [if_neg h4] at h
 by_cases h0 : b = 0
 ·rw [if_pos h0] at h
  cases h
  refine ⟨⟨by decide,by decide⟩,by omega,by simp,?_⟩
  rw [h0]; rfl
 rw [if_neg h0] at h
 by_cases h2 : b ≤ 2
 ·rw [if_pos h2] at h
  by_cases hp : zax (b :: t) 1 = 0
  ·rw [if_pos hp] at h
   obtain ⟨p1,p2,p3,p4,p5⟩:=zhg hd hp
   generalize hx : zaj (b :: t) 1 = x at *
   generalize hn : zat (b :: t) 1 = m at *
   cases h
   have hr0 : ((sg9 (decide (b = 2)) x : Int) : Rat) ≠ 0:=fun h => by
    have:=congrArg (fun q : Rat => q.num.natAbs) h
    simp only [Rat.num_intCast] at this
    rw [zbJ] at this; exact p1 this
   refine ⟨⟨by rw [Rat.den_intCast]; decide,by rw [Rat.num_intCast,zbJ]; exact p2⟩,by omega,p3,?_⟩
   rw [p4]
   unfold zgA zbM zhN numL
   rw [if_neg hr0,if_neg hr0,if_pos (Rat.den_intCast _),if_pos (Rat.den_intCast _),Rat.num_intCast,zbJ]
   have e : (if 0 < sg9 (decide (b = 2)) x then 1 else 2) = b:=by
    by_cases hb : b = 2
    ·rw [if_neg (by rw [zoT p1]; simp [hb])]; exact hb.symm
    ·rw [if_pos (by rw [zoT p1]; simp [hb])]; omega
   rw [e]; simp
  ·rw [if_neg hp] at h; cases h
 rw [if_neg h2] at h
 by_cases hp : zax (b :: t) 1 = 0
 ·rw [if_neg (by rw [hp]; decide)] at h
  obtain ⟨p1,p2,p3,p4,p5⟩:=zhg hd hp
  by_cases hq : zax (b :: t) (zat (b :: t) 1) = 0
  ·rw [if_neg (by rw [hq]; decide)] at h
   obtain ⟨q1,q2,q3,q4,q5⟩:=zhg hd hq
   by_cases hw : zaj (b :: t) 1 = 1 ∨ Nat.gcd (zaj (b :: t) (zat (b :: t) 1)) (zaj (b :: t) 1) ≠ 1
   ·rw [if_pos hw] at h; cases h
   rw [if_neg hw] at h
   generalize hm : zat (b :: t) (zat (b :: t) 1) = m at *
   generalize zaj (b :: t) (zat (b :: t) 1) = x at *
   generalize hk : zat (b :: t) 1 = k at *
   generalize zaj (b :: t) 1 = d at *
   cases h
   have hd1 : d ≠ 1:=fun h => hw (.inl h)
   have hgc : Nat.gcd x d = 1:=Decidable.not_not.1 fun h => hw (.inr h)
   have hdz : ((d : Nat) : Int) ≠ 0:=by omega
   have e1:=zfj (sg9 (decide (b = 4)) x) (d : Int) hdz
   have e2:=zer (sg9 (decide (b = 4)) x) (d : Int) hdz
   have e3:=zes (sg9 (decide (b = 4)) x) (d : Int) hdz
   rw [zbJ,Int.natAbs_natCast,hgc,Nat.div_one] at e1 e2
   generalize Rat.divInt (sg9 (decide (b = 4)) x) (d : Int) = r at *
   have hr0 : r ≠ 0:=fun h => by rw [h] at e1; exact q1 e1.symm
   have hsg : (if 0 < r.num then 1 else 2) = b - 2:=by
    by_cases hb : b = 4
    ·rw [if_neg]
     ·omega
     ·have : sg9 (decide (b = 4)) x < 0:=by unfold sg9; simp [hb]; omega
      have:=e3.2 (.inl ⟨this,by omega⟩)
      omega
    ·rw [if_pos]
     ·omega
     ·have : ¬ (sg9 (decide (b = 4)) x < 0):=by unfold sg9; simp [hb]
      have : ¬ (r.num < 0):=fun h => by rcases e3.1 h with h | h <;> omega
      omega
   refine ⟨⟨by rw [e2]; exact p2,by rw [e1]; exact q2⟩,by omega,q3,?_⟩
   rw [q4,p4]
   unfold zgA zbM zhN numL
   rw [if_neg hr0,if_neg hr0,e2,if_neg hd1,if_neg hd1,e1,hsg]
   have e5 : 2 + (b - 2) = b:=by omega
   rw [e5]; simp
  ·rw [if_pos hq] at h; cases h
 ·rw [if_pos hp] at h; cases h
theorem dec_er (l : List Nat) : (zdf l).1 = .no ∨ (∃ n,(n = 90 ∨ n = 91) ∧ ((zdf l).1 = .bare n ∨ ∃ (s : ByteArray) (k : Nat),(s = zdF ∨ s = zef) ∧ (zdf l).1 = .spot n s k)) ∧ (zdf l).2 = (0,0):=by
 unfold zdf
 have hc:=fun k => znm l k
 split
 ·exact .inr ⟨⟨90,.inl rfl,.inl rfl⟩,rfl⟩
 split
 ·exact .inr ⟨⟨91,.inr rfl,.inl rfl⟩,rfl⟩
 split
 ·exact .inl rfl
 split
 ·split
  ·exact .inl rfl
  ·rename_i h
   exact .inr ⟨⟨zax l 1,(hc 1).resolve_left h,.inr ⟨zdF,1,.inl rfl,rfl⟩⟩,rfl⟩
 split
 ·rename_i h
  exact .inr ⟨⟨zax l 1,(hc 1).resolve_left h,.inr ⟨zef,1,.inr rfl,rfl⟩⟩,rfl⟩
 split
 ·rename_i h
  exact .inr ⟨⟨_,(hc _).resolve_left h,.inr ⟨zdF,_,.inl rfl,rfl⟩⟩,rfl⟩
 split
 ·exact .inr ⟨⟨91,.inr rfl,.inl rfl⟩,rfl⟩
 ·exact .inl rfl
def zcg (r : Rat) : List UInt8:=zbn r.num ++ (if r.den = 1 then [] else 47 :: zbf r.den)
def zap (s : List UInt8) : List UInt8:=s.takeWhile (· != 47)
def zba (s : List UInt8) : List UInt8:=s.dropWhile (· != 47)
def zaw (s : List UInt8) : List UInt8:=(zba s).drop 1
def zbT (s : List UInt8) : Er × Rat :=
 if okI (zap s) = false then (.spot 91 zdF 0,0)
 else if zba s = [] then (.no,((zbB (zap s) : Int) : Rat))
 else if okR (zaw s) = false ∨ zaG (zaw s) = 0 then (.spot 91 zef (((zap s).length + 1 : Nat) : Int),0)
 else if zaG (zaw s) = 1 ∨ Nat.gcd (zbB (zap s)).natAbs (zaG (zaw s)) ≠ 1 then (.bare 91,0)
 else (.no,Rat.divInt (zbB (zap s)) (zaG (zaw s) : Nat))
theorem zaZ (s : List UInt8) : zap s ++ zba s = s:=List.takeWhile_append_dropWhile
theorem zkx : ∀ (s : List UInt8),zba s ≠ [] → zba s = 47 :: zaw s
 | [],h => absurd rfl h
 | c :: t,h => by
   unfold zaw
   unfold zba at h ⊢
   rw [List.dropWhile_cons] at h ⊢
   by_cases hc : (c != 47) = true
   ·rw [if_pos hc] at h ⊢; exact zkx t h
   ·rw [if_neg hc] at h ⊢
    have : c = 47:=by simpa using hc
    rw [this]; rfl
theorem zkn (x : Nat) : ∀ c ∈ zbf x,(c != 47) = true:=fun c hc => by
 have h:=zfN x
 rw [zfm] at h
 simp only [Bool.and_eq_true] at h
 have h2:=List.all_eq_true.1 h.2 c hc
 rw [bne_iff_ne]
 intro e
 rw [e] at h2
 exact absurd h2 (by decide)
theorem zkm (z : Int) : ∀ c ∈ zbn z,(c != 47) = true:=fun c hc => by
 unfold zbn at hc
 split at hc
 ·rcases List.mem_cons.1 hc with rfl | hc
  ·decide
  ·exact zkn _ c hc
 ·exact zkn _ c hc
theorem zkb (z : Int) (t : List UInt8) : zap (zbn z ++ t) = zbn z ++ zap t:=List.takeWhile_append_of_pos (zkm z)
theorem zky (z : Int) (t : List UInt8) : zba (zbn z ++ t) = zba t:=List.dropWhile_append_of_pos (zkm z)
theorem zpP (r : Rat) : zbT (zcg r) = (.no,r):=by
 unfold zbT zcg
 by_cases h1 : r.den = 1
 ·rw [if_pos h1,zkb,zky]
  have e1 : zap ([] : List UInt8) = []:=rfl
  have e2 : zba ([] : List UInt8) = []:=rfl
  rw [e1,e2,List.append_nil,if_neg (by rw [zmI]; decide),if_pos rfl,zkI,(den_one r).1 h1]
 ·rw [if_neg h1]
  have hh : zap (zbn r.num ++ 47 :: zbf r.den) = zbn r.num:=by
   rw [zkb]; show zbn r.num ++ [] = _; rw [List.append_nil]
  have hr : zba (zbn r.num ++ 47 :: zbf r.den) = 47 :: zbf r.den:=by rw [zky]; rfl
  have ht : zaw (zbn r.num ++ 47 :: zbf r.den) = zbf r.den:=by unfold zaw; rw [hr]; rfl
  rw [hh,hr,ht,if_neg (by rw [zmI]; decide),if_neg (by simp),zfN,zfA,zkI,if_neg (fun h => h.elim (fun h => by cases h) r.den_nz),
   if_neg (low_form h1),Rat.num_divInt_den]
theorem zkE {s : List UInt8} {r : Rat} (h : zbT s = (.no,r)) : zcg r = s:=by
 unfold zbT at h
 by_cases h1 : okI (zap s) = false
 ·rw [if_pos h1] at h; cases h
 rw [if_neg h1] at h
 have hI:=zoz (s:=zap s) (by simpa using h1)
 have hs:=zaZ s
 by_cases h2 : zba s = []
 ·rw [if_pos h2] at h
  cases h
  unfold zcg
  rw [Rat.num_intCast,if_pos (Rat.den_intCast _),hI,List.append_nil]
  rw [h2,List.append_nil] at hs
  exact hs
 rw [if_neg h2] at h
 by_cases h3 : okR (zaw s) = false ∨ zaG (zaw s) = 0
 ·rw [if_pos h3] at h; cases h
 rw [if_neg h3] at h
 have hS:=zhk (s:=zaw s) (by have:=fun e => h3 (.inl e); simpa using this)
 by_cases h4 : zaG (zaw s) = 1 ∨ Nat.gcd (zbB (zap s)).natAbs (zaG (zaw s)) ≠ 1
 ·rw [if_pos h4] at h; cases h
 rw [if_neg h4] at h
 have hrest:=zkx s h2
 generalize zaG (zaw s) = d at *
 generalize zbB (zap s) = z at *
 cases h
 have hg : Nat.gcd z.natAbs d = 1:=Decidable.not_not.1 fun h => h4 (.inr h)
 have hz : ((d : Nat) : Int) ≠ 0:=by have:=fun e => h3 (.inr e); omega
 have e2:=zer z (d : Int) hz
 have e1 : Rat.divInt z (d : Int) = Rat.divInt z (d : Int):=rfl
 rw [Int.natAbs_natCast,hg,Nat.div_one] at e2
 have hn : (Rat.divInt z (d : Int)).num = z:=by
  have a1:=zfj z (d : Int) hz
  have a2:=zes z (d : Int) hz
  rw [Int.natAbs_natCast,hg,Nat.div_one] at a1
  generalize (Rat.divInt z (d : Int)).num = y at *
  have hd0 : 0 < (d : Int):=by omega
  rcases Int.lt_trichotomy z 0 with h | h | h
  ·have:=a2.2 (.inl ⟨h,hd0⟩); omega
  ·omega
  ·have : ¬ (y < 0):=fun h9 => by rcases a2.1 h9 with h8 | h8 <;> omega
   omega
 unfold zcg
 rw [hn,e2,if_neg (fun e => h4 (.inl e)),hI,hS,← hrest]
 exact hs
theorem read_er (s : List UInt8) : (zbT s).1 = .no ∨ ((zbT s).1 = .bare 91 ∨ ∃ (t : ByteArray) (k : Nat),(t = zdF ∨ t = zef) ∧ (zbT s).1 = .spot 91 t k) ∧ (zbT s).2 = 0:=by
 unfold zbT
 split
 ·exact .inr ⟨.inr ⟨zdF,0,.inl rfl,rfl⟩,rfl⟩
 split
 ·exact .inl rfl
 split
 ·exact .inr ⟨.inr ⟨zef,_,.inr rfl,rfl⟩,rfl⟩
 split
 ·exact .inr ⟨.inl rfl,rfl⟩
 ·exact .inl rfl
def zgX (w : World) (l : List Nat) (e : Ending) (w' : World) : Prop:=∃ v,e = .returned v ∧ w'.ownsRow w.heap.size 5 1 v l.length (zaq .u8 l) ∧ Below w.heap.size w w'

set_option maxRecDepth 100000
set_option linter.unusedSimpArgs false
theorem under_N : Tryz.prog.underlying 36 = some (.slice 3):=by kernel_rfl
theorem zdb (x : Nat) (A : oA9) (n c : Nat) (w : World) (hA : zaf w x A n c) (hn : n ≤ 1) :
  Calls Tryz.prog 119 #[.agg #[.slice A n c]] w fun e w' => e = .returned (.tuple #[.int .u64 (wd x 0 : Nat),.bool true]) ∧ Below w.heap.size w w':=by
 have WX:=(fun w' (h : Below w.heap.size w w') => zfk x A n c 0 w' (hA.below h))
 obtain ⟨a,ha⟩ : ∃ a,wd x 0 = a:=⟨_,rfl⟩
 rw [ha] at WX ⊢
 have HWX:=lh9 WX
 have h1 : decide ((1 : Int) < (n : Int)) = false:=by simp; omega
 have h2 : decide ((n : Int) > 1) = false:=by simp; omega
 have h3 : ¬ 1 < n:=by omega
 clear WX ha hA
 go_enter Tryz.func119,Tryz.ntmps119
 go_wp2_with fail
 obtain ⟨b1,b2,b5⟩:=zaz w 29 #[.slice A n c]
 refine (HWX.out _ b1).mono ?_
 rintro e w1 ⟨rfl,hb⟩
 have hB:=zac b1 hb
 clear hb b1 b2 b5
 go_wp2
 go_ret2
 exact ⟨rfl,hB⟩
theorem zcH (A : oA9) (n c : Nat) (w : World) (hn : 1 < n) :
  Calls Tryz.prog 119 #[.agg #[.slice A n c]] w fun e w' => e = .returned (.tuple #[.int .u64 0,.bool false]) ∧ Below w.heap.size w w':=by
 go_enter Tryz.func119,Tryz.ntmps119
 go_wp2
 go_ret2
 exact ⟨rfl,(Below.refl _ w).alloc (Nat.le_refl _) _⟩
def TW (x t : Nat) : Prop:=(x = 0 ∧ t = 0) ∨ ∃ m,x = 2 ^ t * (2 * m + 1)
def zbG (x : Nat) : Nat:=if x = 0 then 0 else Lib.ctzFrom x x
theorem zlH {x t : Nat} {m : Nat} (h : x = 2 ^ t * (2 * m + 1)) : x / 2 ^ t % 2 = 1:=by
 rw [h,Nat.mul_div_cancel_left _ (Nat.two_pow_pos t)]; omega
theorem tw_low {x t j : Nat} {m : Nat} (h : x = 2 ^ t * (2 * m + 1)) (hj : j < t) : x / 2 ^ j % 2 = 0:=by
 obtain ⟨s,rfl⟩ : ∃ s,t = j + (s + 1):=⟨t - j - 1,by omega⟩
 rw [h,Nat.pow_add,Nat.mul_assoc,Nat.mul_div_cancel_left _ (Nat.two_pow_pos j),Nat.pow_succ,Nat.mul_comm (2 ^ s) 2,Nat.mul_assoc]
 exact Nat.mul_mod_right _ _
theorem tw_pos {x t : Nat} {m : Nat} (h : x = 2 ^ t * (2 * m + 1)) : x ≠ 0:=by
 have:=Nat.two_pow_pos t
 rw [h]
 exact Nat.ne_of_gt (Nat.mul_pos this (by omega))
theorem tw_N (x : Nat) : TW x (zbG x):=by
 unfold TW zbG
 by_cases h : x = 0
 ·exact .inl ⟨h,by rw [if_pos h]⟩
 ·rw [if_neg h]
  obtain ⟨m,hm,_⟩:=Lib.ctzFrom_spec x x (by omega) Nat.lt_two_pow_self
  exact .inr ⟨m,hm⟩
theorem tw_find {x t : Nat} (hlow : ∀ j,j < t → x / 2 ^ j % 2 = 0) (hx : x = 0 → t = 0) (h1 : x ≠ 0 → x / 2 ^ t % 2 = 1) : t = zbG x:=by
 rcases tw_N x with ⟨e,h⟩ | ⟨m,h⟩
 ·rw [hx e,h]
 ·have h0:=tw_pos h
  rcases Nat.lt_trichotomy t (zbG x) with hl | hl | hl
  ·have:=tw_low h hl
   rw [h1 h0] at this; omega
  ·exact hl
  ·have:=zlH h
   rw [hlow _ hl] at this; omega
theorem tw_of {x t m : Nat} (h : x = 2 ^ t * (2 * m + 1)) : t = zbG x :=
 tw_find (fun j hj => tw_low h hj) (fun e => absurd e (tw_pos h)) (fun _ => zlH h)
theorem zpd {x k : Nat} (h0 : x % 18446744073709551616 ^ k = 0) (hw : wd x k ≠ 0) : 64 * k + Lib.ctz 64 (wd x k) = zbG x:=by
 have hlt:=zcB x k
 obtain ⟨m,hm,hc⟩:=Lib.ctzFrom_spec 64 (wd x k) (by omega) (by simpa using hlt)
 have ec : Lib.ctz 64 (wd x k) = Lib.ctzFrom 64 (wd x k):=by unfold Lib.ctz; rw [if_neg hw]
 rw [ec]
 generalize Lib.ctzFrom 64 (wd x k) = c at *
 obtain ⟨s,hs⟩ : ∃ s,64 = c + (s + 1):=⟨63 - c,by omega⟩
 obtain ⟨q,hq⟩ : ∃ q,x / 18446744073709551616 ^ k / 18446744073709551616 = q:=⟨_,rfl⟩
 have e1 : x / 18446744073709551616 ^ k = 18446744073709551616 * q + wd x k:=by rw [← hq]; exact (Nat.div_add_mod _ _).symm
 have e2 : x = 18446744073709551616 ^ k * (x / 18446744073709551616 ^ k):=by
  have:=Nat.div_add_mod x (18446744073709551616 ^ k)
  rw [h0] at this; omega
 have e3 : (18446744073709551616 : Nat) = 2 ^ c * (2 * 2 ^ s):=by
  rw [show (18446744073709551616 : Nat) = 2 ^ 64 from rfl,hs,Nat.pow_add,Nat.pow_succ,Nat.mul_comm (2 ^ s) 2]
 refine tw_of (m:=2 ^ s * q + m) ?_
 have e4 : (18446744073709551616 : Nat) ^ k = 2 ^ (64 * k):=by rw [show (18446744073709551616 : Nat) = 2 ^ 64 from rfl,← Nat.pow_mul]
 have e5 : 18446744073709551616 * q + wd x k = 2 ^ c * (2 * (2 ^ s * q + m) + 1):=by
  rw [hm]
  conv => lhs; rw [e3]
  rw [Nat.mul_assoc,← Nat.mul_add,Nat.mul_add 2,Nat.mul_assoc,Nat.add_assoc]
 rw [e2,e1,e5,e4,← Nat.mul_assoc,← Nat.pow_add]
theorem ziR (x : Nat) (A : oA9) (n c : Nat) (w : World) (hA : zaf w x A n c) (hn : n ≤ 1099511627776) (hT : zam w) :
  Calls Tryz.prog 140 #[.agg #[.slice A n c]] w fun e w' => e = .returned (.int .i64 (zbG x : Nat)) ∧ Below w.heap.size w w':=by
 have hln:=lh9 hA.len
 have hr:=hA.1
 have HT:=lh9 (fun o => hT.on ((Below.refl _ w).alloc (Nat.le_refl _) o))
 have hcl : ∀ o,Hid (zas (w.alloc o) w.heap.size 1 A n (zaq .u64 (dg 18446744073709551616 x))):=fun o => hr.alloc (Nat.le_refl _) o
 have HC:=lh9 hcl
 clear hA hT hcl hr
 go_enter Tryz.func140,Tryz.ntmps140
 go_wp2_with fail
 go_loop [3,4,8] (fun _ _ ix => ∃ k : Nat,k ≤ n ∧ ix = .int .i64 k ∧ Hid (x % 18446744073709551616 ^ k = 0)) (fun _ _ ix => n - (intOf ix).toNat)
 case atStart => exact ⟨0,Nat.zero_le _,rfl,by show _ = _; simp [Nat.mod_one]⟩
 case round =>
  obtain ⟨k,hk,rfl,H⟩:=hrel
  by_cases hlt : k < n
  ·obtain ⟨ad,rfl,hadb,hc0⟩:=zbg (HC.out (.cells #[.slice A n c] 29)).out hlt
   rw [zfB] at hc0
   by_cases hz : wd x k = 0
   ·have HN : Hid (x % 18446744073709551616 ^ (k + 1) = 0):=by
     show _ = _
     rw [zbb 18446744073709551616 x k,H.out,Nat.zero_add]
     unfold wd at hz
     rw [hz,Nat.mul_zero]
    rw [hz] at hc0
    clear hz
    go_wp2
    go_round
    case rel => exact ⟨k + 1,by omega,by go_num,HN⟩
    case measure => simp [intOf]; omega
   ·have HV:=lh9 (zpd H.out hz)
    have hwl:=zcB x k
    have WT:=(fun w' (h : zam w') => zoB ((wd x k : Nat) : Int) ⟨by omega,by omega⟩ w' h)
    have hbd:=ctz_le (wd x k) (by simpa using hwl)
    have et : zgk ((wd x k : Nat) : Int) = ((Lib.ctz 64 (wd x k) : Nat) : Int):=by unfold zgk; simp
    rw [et] at WT
    obtain ⟨t,ht⟩ : ∃ t,Lib.ctz 64 (wd x k) = t:=⟨_,rfl⟩
    rw [ht] at WT HV hbd
    obtain ⟨a,ha⟩ : ∃ a,wd x k = a:=⟨_,rfl⟩
    rw [ha] at hc0 WT hz
    have hWT:=lh9 WT
    have hz' : ((a : Int) == 0) = false:=beq_eq_false_iff_ne.2 (by omega)
    have hz2 : ((a : Int) != 0) = true:=by simp; omega
    clear WT ht ha et hz hwl
    go_wp2_with fail
    refine (hWT.out _ (HT.out _)).mono ?_
    rintro e w' ⟨rfl,rfl⟩
    go_wp2
    go_ret
    refine ⟨zia ?_,(Below.refl _ w).alloc (Nat.le_refl _) _⟩
    have:=HV.out
    omega
  ·have hkn : k = n:=by omega
   subst hkn
   have HX : Hid (zbG x = 0):=by
    show _ = _
    have h1:=zaU (b:=18446744073709551616) (by decide) x
    rw [hln.out] at h1
    have h2:=H.out
    rw [Nat.mod_eq_of_lt h1] at h2
    rw [h2]; rfl
   go_wp2
   go_ret
   exact ⟨by rw [HX.out]; rfl,(Below.refl _ w).alloc (Nat.le_refl _) _⟩
def encE (r : Rat) : Er:=if 255 < zcp r.den then .spot 3 zef ((zcp r.den : Nat) : Int) else if 255 < zcp r.num.natAbs then .spot 3 zdF ((zcp r.num.natAbs : Nat) : Int) else .no
def encL (r : Rat) : List Nat:=if 255 < zcp r.den ∨ 255 < zcp r.num.natAbs then [] else zgA r
theorem enc_den {r : Rat} (h : ¬ zcp r.den ≤ 255) : encE r = .spot 3 zef ((zcp r.den : Nat) : Int) ∧ encL r = []:=⟨if_pos (by omega),if_pos (.inl (by omega))⟩
theorem enc_num {r : Rat} (h : zcp r.den ≤ 255) (k : ¬ zcp r.num.natAbs ≤ 255) : encE r = .spot 3 zdF ((zcp r.num.natAbs : Nat) : Int) ∧ encL r = []:=⟨(if_neg (by omega)).trans (if_pos (by omega)),if_pos (.inr (by omega))⟩
theorem zld {r : Rat} (h : zcp r.den ≤ 255) (k : zcp r.num.natAbs ≤ 255) : encE r = .no ∧ encL r = zgA r:=⟨(if_neg (by omega)).trans (if_neg (by omega)),if_neg (by omega)⟩
theorem blen_one : zcp 1 = 1:=by decide
theorem ziB : encE 0 = .no ∧ encL 0 = [0]:=zld (r:=0) (by decide) (by decide)
theorem form_ne {r : Rat} (h : r ≠ 0) : zgA r = [zbM r] ++ (zhN r ++ zeb r.num.natAbs):=by unfold zgA numL; rw [if_neg h]; rfl
theorem zoL {r : Rat} (h : r ≠ 0) : zbM r = (if r.den = 1 then 1 else 3) + (if r.num < 0 then 1 else 0):=by
 unfold zbM
 rw [if_neg h]
 have : r.num ≠ 0:=fun e => h (Rat.num_eq_zero.1 e)
 (repeat' split) <;> omega
theorem zdz.up {B B' : Nat} {w : World} {v : Value} {L : List Nat} (h : zdz B' w v L) (hb : B ≤ B') : zdz B w v L:=by
 obtain ⟨h1,h2⟩:=h
 exact ⟨h1,h2.imp id fun ⟨g,cap,cur,e,hg,h3⟩ => ⟨g,cap,cur,e,Nat.le_trans hb hg,h3⟩⟩
theorem zbr {P : Program} {f : FuncId} {args : Array Value} {w : World} {z v : Int} (e : z = v) (h : Calls P f args w (zdo w z)) : Calls P f args w fun e w' => e = .returned (.int .i64 v) ∧ Below w.heap.size w w':=by
 subst e; exact h
theorem zaW {P : Program} {f : FuncId} {args : Array Value} {w : World} {b t : Bool} (e : b = t) (h : Calls P f args w fun e w' => e = .returned (.bool b) ∧ Below w.heap.size w w') : Calls P f args w fun e w' => e = .returned (.bool t) ∧ Below w.heap.size w w':=by
 subst e; exact h
theorem zms {T : World → Prop} (IC : IntC T) (x : Nat) (A : oA9) (n c : Nat) (w : World) (hT : T w) (h : zaf w x A n c) (hn : n ≤ 268435456) : Calls Tryz.prog 38 #[.bool false,.agg #[.slice A n c]] w (zcC w (x : Int)) :=
 IC.new false x A n c w hT h hn
theorem zjZ : ∀ (L : List UInt8) (k : Nat),k < (zap L).length → k < L.length ∧ (L.getD k 0).toNat ≠ 47
 | [],k,h => absurd h (by simp [zap])
 | c :: t,k,h => by
   unfold zap at h
   rw [List.takeWhile_cons] at h
   by_cases hc : (c != 47) = true
   ·rw [if_pos hc] at h
    cases k with
    | zero => exact ⟨by simp,fun e => (bne_iff_ne.1 hc) (UInt8.toNat_inj.1 e)⟩
    | succ k =>
      have h2:=zjZ t k (by unfold zap; simpa using h)
      exact ⟨by simp; omega,h2.2⟩
   ·rw [if_neg hc] at h; exact absurd h (by simp)
theorem zmo : ∀ (L : List UInt8),((zap L).length = L.length ∧ zba L = []) ∨ ((zap L).length < L.length ∧ zba L ≠ [] ∧ (L.getD (zap L).length 0).toNat = 47)
 | [] => .inl ⟨rfl,rfl⟩
 | c :: t => by
   have ih:=zmo t
   unfold zap zba
   rw [List.takeWhile_cons,List.dropWhile_cons]
   by_cases hc : (c != 47) = true
   ·rw [if_pos hc,if_pos hc]
    rcases ih with ⟨h1,h2⟩ | ⟨h1,h2,h3⟩
    ·exact .inl ⟨by simp; exact h1,h2⟩
    ·exact .inr ⟨by simp; exact h1,h2,h3⟩
   ·rw [if_neg hc,if_neg hc]
    have : c = 47:=by simpa using hc
    exact .inr ⟨by simp,by simp,by rw [this]; rfl⟩
theorem neg_head (h : List UInt8) : (h = [] → zcQ h = false) ∧ (h ≠ [] → zcQ h = decide ((h.getD 0 0).toNat = 45)):=by
 cases h with
 | nil => exact ⟨fun _ => rfl,fun h => absurd rfl h⟩
 | cons c t =>
   refine ⟨(fun h => by cases h),fun _ => ?_⟩
   unfold zcQ
   refine decide_eq_decide.2 ?_
   show some c = some 45 ↔ c.toNat = 45
   exact ⟨fun h => by rw [Option.some.inj h]; rfl,fun h => by rw [UInt8.toNat_inj.1 (show c.toNat = (45 : UInt8).toNat from h)]⟩
theorem zir (h : List UInt8) : (zcQ h = true → zbc h = h.drop 1 ∧ 1 ≤ h.length) ∧ (zcQ h = false → zbc h = h):=by
 unfold zcQ zbc
 refine ⟨fun k => ?_,fun k => if_neg (of_decide_eq_false k)⟩
 have k:=of_decide_eq_true k
 refine ⟨if_pos k,?_⟩
 cases h with
 | nil => cases k
 | cons c t => simp
theorem val_sg (h : List UInt8) : zbB h = sgI (zcQ h) (zaG (zbc h)):=by unfold zbB sgI; rfl
section
variable {s : List UInt8}
theorem rd_1 (h : okI (zap s) = false) : zbT s = (.spot 91 zdF 0,0):=by unfold zbT; rw [if_pos h]
theorem rd_2 (h : okI (zap s) = true) (hr : zba s = []) : zbT s = (.no,((zbB (zap s) : Int) : Rat)):=by unfold zbT; rw [if_neg (by rw [h]; decide),if_pos hr]
theorem rd_3 (h : okI (zap s) = true) (hr : zba s ≠ []) (k : okR (zaw s) = false ∨ zaG (zaw s) = 0) : zbT s = (.spot 91 zef (((zap s).length + 1 : Nat) : Int),0):=by unfold zbT; rw [if_neg (by rw [h]; decide),if_neg hr,if_pos k]
theorem rd_4 (h : okI (zap s) = true) (hr : zba s ≠ []) (k : okR (zaw s) = true) (hv : zaG (zaw s) ≠ 0) :
  (zcg (Rat.divInt (zbB (zap s)) ((zaG (zaw s) : Nat) : Int)) = s → zbT s = (.no,Rat.divInt (zbB (zap s)) ((zaG (zaw s) : Nat) : Int))) ∧ (zcg (Rat.divInt (zbB (zap s)) ((zaG (zaw s) : Nat) : Int)) ≠ s → zbT s = (.bare 91,0)):=by
 refine ⟨fun e => ?_,fun e => ?_⟩
 ·have h1:=zpP (Rat.divInt (zbB (zap s)) ((zaG (zaw s) : Nat) : Int))
  rwa [e] at h1
 ·have h2 : zbT s = (if zaG (zaw s) = 1 ∨ Nat.gcd (zbB (zap s)).natAbs (zaG (zaw s)) ≠ 1 then (.bare 91,0) else (.no,Rat.divInt (zbB (zap s)) (zaG (zaw s) : Nat))):=by
   unfold zbT
   rw [if_neg (by rw [h]; decide),if_neg hr,if_neg (fun h => h.elim (fun h => by rw [k] at h; cases h) hv)]
  by_cases hb : zaG (zaw s) = 1 ∨ Nat.gcd (zbB (zap s)).natAbs (zaG (zaw s)) ≠ 1
  ·rw [if_pos hb] at h2; exact h2
  ·rw [if_neg hb] at h2; exact absurd (zkE h2) e
end
end Go.Proofs.YtfieheffipfahaaGreatDoor
