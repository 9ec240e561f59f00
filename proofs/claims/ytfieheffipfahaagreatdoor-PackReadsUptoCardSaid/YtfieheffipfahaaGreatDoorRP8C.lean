/- What this claim leans on. -/
import Derived.Test.YtfieheffipfahaaGreatDoorRBunR
namespace Go.Proofs.YtfieheffipfahaaGreatDoor
open Go Go.RowKit
set_option maxHeartbeats 16000000
set_option linter.unusedVariables false
def DenIn (w : World) (q : Nat) (A : oA9) (n c : Nat) : Prop:=∃ x,(q = (if x = 0 then 1 else x) ∧ x ≠ 1) ∧ zaf w x A n c
theorem DenIn.below {w w' : World} {q : Nat} {A : oA9} {n c : Nat} (h : DenIn w q A n c) (hb : Below w.heap.size w w') : DenIn w' q A n c:=by
 obtain ⟨x,e,h1⟩:=h
 exact ⟨x,e,h1.below hb⟩
def zaF (w : World) (r : Rat) (b : Bool) (A : oA9) (n c : Nat) (E : oA9) (k f : Nat) : Prop:=zaE w r.num b A n c ∧ DenIn w r.den E k f
theorem zaF.below {w w' : World} {r : Rat} {b : Bool} {A : oA9} {n c : Nat} {E : oA9} {k f : Nat} (h : zaF w r b A n c E k f) (hb : Below w.heap.size w w') : zaF w' r b A n c E k f:=⟨h.1.below hb,h.2.below hb⟩
theorem zaF.to {w : World} {r s : Rat} {b : Bool} {A : oA9} {n c : Nat} {E : oA9} {k f : Nat} (e : r = s) (h : zaF w r b A n c E k f) : zaF w s b A n c E k f:=e ▸ h
def zfX (w : World) (r : Rat) (e : Ending) (w' : World) : Prop:=∃ (b : Bool) (A : oA9) (n c : Nat) (E : oA9) (k f : Nat),e = .returned (.agg #[.bool b,.slice A n c,.slice E k f]) ∧ zaF w' r b A n c E k f ∧ Below w.heap.size w w'
def zcn (w : World) (r : Rat) (t : Bool) (e : Ending) (w' : World) : Prop:=∃ (b : Bool) (A : oA9) (n c : Nat) (E : oA9) (k f : Nat),e = .returned (.tuple #[.agg #[.bool b,.slice A n c,.slice E k f],.bool t]) ∧ zaF w' r b A n c E k f ∧ Below w.heap.size w w'
def zbL (n k : Nat) : Prop:=n ≤ 67108864 ∧ k ≤ 67108864
structure RatG0 (T : World → Prop) : Prop where
structure RatG1 (T : World → Prop) : Prop where
structure RatG2 (T : World → Prop) : Prop where
 whole : ∀ (z : Int) (b : Bool) (A : oA9) (n c : Nat) (w : World),T w → zaE w z b A n c → n ≤ 67108864 → Calls Tryz.prog 57 #[.agg #[.bool b,.slice A n c]] w (zfX w (z : Rat))
structure RatC (T : World → Prop) (M : Nat → Prop) : Prop where
 g0 : M 0 → RatG0 T
 g1 : M 1 → RatG1 T
 g2 : M 2 → RatG2 T
 new : ∀ (p q : Int) (b b' : Bool) (A D : oA9) (n m c d : Nat) (w : World),T w → zaE w p b A n c → zaE w q b' D m d → n ≤ 67108864 → m ≤ 67108864 → q ≠ 0 → Calls Tryz.prog 36 #[.agg #[.bool b,.slice A n c],.agg #[.bool b',.slice D m d]] w (zcn w (Rat.divInt p q) true)
 newNo : ∀ (p q : Int) (b b' : Bool) (A D : oA9) (n m c d : Nat) (w : World),T w → zaE w p b A n c → zaE w q b' D m d → n ≤ 67108864 → m ≤ 67108864 → q = 0 → Calls Tryz.prog 36 #[.agg #[.bool b,.slice A n c],.agg #[.bool b',.slice D m d]] w (zcn w 0 false)
 of : ∀ (p q : Int) (w : World),T w → -9223372036854775808 ≤ p → p ≤ 9223372036854775807 → -9223372036854775808 ≤ q → q ≤ 9223372036854775807 → q ≠ 0 → Calls Tryz.prog 32 #[.int .i64 p,.int .i64 q] w (zcn w (Rat.divInt p q) true)
 ofNo : ∀ (p q : Int) (w : World),T w → -9223372036854775808 ≤ p → p ≤ 9223372036854775807 → q = 0 → Calls Tryz.prog 32 #[.int .i64 p,.int .i64 q] w (zcn w 0 false)
 num : ∀ (r : Rat) (b : Bool) (A : oA9) (n c : Nat) (E : oA9) (k f : Nat) (w : World),T w → zaF w r b A n c E k f → zbL n k → Calls Tryz.prog 27 #[.agg #[.bool b,.slice A n c,.slice E k f]] w (zcC w r.num)
 den : ∀ (r : Rat) (b : Bool) (A : oA9) (n c : Nat) (E : oA9) (k f : Nat) (w : World),T w → zaF w r b A n c E k f → zbL n k → Calls Tryz.prog 30 #[.agg #[.bool b,.slice A n c,.slice E k f]] w (zeA w r.den)
 sign : ∀ (r : Rat) (b : Bool) (A : oA9) (n c : Nat) (E : oA9) (k f : Nat) (w : World),T w → zaF w r b A n c E k f → zbL n k → Calls Tryz.prog 70 #[.agg #[.bool b,.slice A n c,.slice E k f]] w (zdo w (zhS r))
 zero : ∀ (r : Rat) (b : Bool) (A : oA9) (n c : Nat) (E : oA9) (k f : Nat) (w : World),T w → zaF w r b A n c E k f → zbL n k → Calls Tryz.prog 26 #[.agg #[.bool b,.slice A n c,.slice E k f]] w fun e w' => e = .returned (.bool (decide (r = 0))) ∧ Below w.heap.size w w'
 isInt : ∀ (r : Rat) (b : Bool) (A : oA9) (n c : Nat) (E : oA9) (k f : Nat) (w : World),T w → zaF w r b A n c E k f → zbL n k → Calls Tryz.prog 31 #[.agg #[.bool b,.slice A n c,.slice E k f]] w fun e w' => e = .returned (.bool (decide (r.den = 1))) ∧ Below w.heap.size w w'
 bits : ∀ (r : Rat) (b : Bool) (A : oA9) (n c : Nat) (E : oA9) (k f : Nat) (w : World),T w → zaF w r b A n c E k f → zbL n k → Calls Tryz.prog 63 #[.agg #[.bool b,.slice A n c,.slice E k f]] w (zdo w ((bitLen r.num.natAbs + bitLen r.den : Nat) : Int))
 same : ∀ (r s : Rat) (b b' : Bool) (A A' : oA9) (n n' c c' : Nat) (E E' : oA9) (k k' f f' : Nat) (w : World),T w → zaF w r b A n c E k f → zaF w s b' A' n' c' E' k' f' → zbL n k → zbL n' k' → Calls Tryz.prog 23 #[.agg #[.bool b,.slice A n c,.slice E k f],.agg #[.bool b',.slice A' n' c',.slice E' k' f']] w fun e w' => e = .returned (.bool (decide (r = s))) ∧ Below w.heap.size w w'
set_option maxRecDepth 100000
set_option linter.unusedSimpArgs false
theorem infoB8 : (Tryz.prog.info? 5).map (fun i => (i.zero,i.size,i.bytes)) = some (some (.int .u8 0),1,1):=by kernel_rfl
theorem zlb (x : Nat) (A : oA9) (n c : Nat) (w : World) (hA : zaf w x A n c) (hn : n ≤ 274877906944) :
  Calls Tryz.prog 88 #[.agg #[.slice A n c]] w (zgX w (zcq x)):=by
 obtain ⟨i0,hi0,hz0,hz1,hz2⟩:=info_parts infoB8
 have hsm : (dg 256 x).length ≤ 8 * n:=by
  have h:=zmc (K:=n) (x:=x) (by have:=zaU (b:=18446744073709551616) (by decide) x; rwa [hA.len] at this)
  rwa [zeF] at h
 obtain ⟨hB,b2,b5⟩:=zaz w 29 #[.slice A n c]
 have HSZ:=lh9 (zff x A n c _ (hA.below hB) hn)
 have HW:=lh9 (fun (k : Nat) w' (h : Below w.heap.size w w') => zfk x A n c k w' (hA.below h))
 have HBO:=lh9 (byte_of x)
 have HD:=lh9 (fun k => (zbE (b:=256) (by decide) x).getD (by decide) k)
 obtain ⟨N,hN⟩ : ∃ m,(dg 256 x).length = m:=⟨_,rfl⟩
 have HDONE:=lh9 (fun M (h : zcV x N N M) => zcV.done h hN.symm)
 have HBL : Hid ((zcq x).length = N):=by show _ = _; rw [zeF,hN]
 rw [hN] at HSZ hsm
 obtain ⟨Z,hZ⟩ : ∃ Z,madeCells (Value.cells (.int .u8 0)) (N * i0.size) = Z:=⟨_,rfl⟩
 have hmk : ∀ W : World,(Instr.makeSlice 42 (.int .i64 (N : Int)) (.int .i64 (N : Int))).run Tryz.prog W = .ok (.slice (some ⟨W.heap.size,0,none⟩) N N) (W.alloc (.cells Z 5)):=fun W => by
  rw [← hZ]; exact zbz _ _ i0 _ Tryz.underlying42 hi0 hz0 _ _ N N (Nat.le_refl _) (by rw [hz2]; omega) (by omega) W
 have HM : Hid (∀ W : World,zbA (W.alloc (.cells Z 5)) 5 W.heap.size N N (List.replicate N 0)):=fun W => by
  have h:=zbA.made W 5 N (by unfold maxLen; omega)
  rw [← hZ,hz1,Nat.mul_one]
  exact h
 clear hA hN hZ
 go_enter Tryz.func88,Tryz.ntmps88
 go_wp2_with fail
 refine HSZ.out.mono ?_
 rintro e w1 ⟨rfl,hb⟩
 have hk:=zae hb b2
 have hB1:=zac hB hb
 clear hb hB b2 b5 HSZ
 go_wp2
 clear hmk
 have hR:=HM.out w1
 have hB2:=hB1.alloc hB1.size (.cells Z 5)
 have hk2:=hk.alloc (.cells Z 5)
 have hsz:=hB1.size
 have hlt1:=hk.lt
 generalize w1.alloc (.cells Z 5) = W2 at *
 obtain ⟨r,hr⟩ : ∃ r,w1.heap.size = r:=⟨_,rfl⟩
 rw [hr] at hR hsz hlt1 ⊢
 have HF:=lh9 (zcV.start x N)
 clear HM hr hk hB1
 go_loopg [10] (N + 1) (fun g i wr => ∃ (k : Nat) (L : List Nat),k ≤ N ∧ N < g + k ∧ i = .int .i64 k ∧ Hid (zcV x N k L) ∧ zbA wr 5 r N N L ∧ Below w.heap.size w wr ∧ Blk wr w.heap.size 29 #[.slice A n c])
 case atStart => exact ⟨0,_,Nat.zero_le _,by omega,rfl,HF,hR,hB2,hk2⟩
 case round =>
  clear HF hR hB2 hk2
  obtain ⟨k,L,hkN,hg,rfl,HF,hR,hB,hk⟩:=hrel
  have i1 : (0 : Int) ≤ (k : Int):=by omega
  by_cases hlt : k < N
  ·have i2 : (k : Int) < (N : Int):=by omega
   have HST:=lh9 (HF.out.step hlt)
   have hbo:=HBO.out k
   have hdl:=HD.out k
   obtain ⟨d,hd⟩ : ∃ d,(dg 256 x).getD k 0 = d:=⟨_,rfl⟩
   rw [hd] at hbo hdl HST
   have g1:=hk.cell 0
   simp only [List.getElem?_toArray,List.getElem?_cons_zero] at g1
   obtain ⟨q,hq⟩ : ∃ q,k / 8 = q:=⟨_,rfl⟩
   obtain ⟨p,hp⟩ : ∃ q,k % 8 = q:=⟨_,rfl⟩
   have hp8 : p < 8:=by omega
   have HWQ:=lh9 (HW.out q wr hB)
   have hwl:=zcB x q
   rw [hq,hp] at hbo
   obtain ⟨v,hv⟩ : ∃ v,wd x q = v:=⟨_,rfl⟩
   rw [hv] at HWQ hwl hbo
   have hix : (N : Int) - 1 - (k : Int) = ((N - 1 - k : Nat) : Int):=by omega
   obtain ⟨j,hj⟩ : ∃ j,N - 1 - k = j:=⟨_,rfl⟩
   rw [hj] at HST hix
   have hjN : j < N:=by omega
   have c1:=hR.cell j hjN
   have f1:=hR.frozen j
   have e1 : (k : Int) / 8 = (q : Int):=by omega
   have e2 : (k : Int) % 8 = (p : Int):=by omega
   have HBO2:=lh9 hbo
   have HP8 : p * 8 < 64:=by omega
   clear hbo hd hq hp hv hj
   go_wp2_with fail
   refine HWQ.out.mono ?_
   rintro e w3 ⟨rfl,hb⟩
   have hR:=hR.keep hb
   have hk:=zae hb hk
   have hB:=zac hB hb
   have f1:=hR.frozen j
   have c1:=hR.cell j hjN
   have HR2:=lh9 (hR.set_ j d hjN)
   have HB2:=lh9 (hB.setCell (p:=⟨r,j,none⟩) hsz (.int .u8 (d : Int)))
   have HK2:=lh9 (hk.far (p:=⟨r,j,none⟩) (by show w.heap.size ≠ r; omega) (.int .u8 (d : Int)))
   have HV : Hid ((v : Int) / 2 ^ (p * 8) % 256 = (d : Int)):=by show _ = _; rw [HBO2.out,Nat.mul_comm 8 p]; simp
   have s1 : ((p : Int) * 8).toNat = p * 8:=by omega
   clear hb hR hk hB HWQ g1
   go_wp2
   go_roundg (N - k)
   case measure => omega
   case rel => exact ⟨k + 1,_,by omega,by omega,by go_num,HST,by rw [HV.out]; exact HR2.out,by rw [HV.out]; exact HB2.out,by rw [HV.out]; exact HK2.out⟩
  ·have hkN2 : k = N:=by omega
   subst hkN2
   have HE:=lh9 (HDONE.out _ HF.out)
   have hrow:=hR.own hsz
   rw [HE.out] at hrow
   have HG : Hid (zgX w (zcq x) (.returned (.slice (some ⟨r,0,none⟩) k k)) wr):=⟨_,rfl,by rw [HBL.out]; exact hrow,hB⟩
   clear hrow HE HDONE HBL hR hk HF hB
   go_wp2
   go_ret
   exact HG.out
theorem zbN (w : World) : zai w 0 none 0 0:=⟨zas.none_,Nat.le_refl _,by omega⟩
def GivesH (w : World) (x : Nat) (e : Ending) (w' : World) : Prop:=∃ (A : oA9) (n c : Nat),e = .returned (.slice A n c) ∧ zai w' x A n c ∧ Below w.heap.size w w'
theorem zpB (w : World) (g : Nat) (h : Blk w g 3 #[.int .i64 1]) : zai w 1 (some ⟨g,0,none⟩) 1 1:=by
 have e : dg 65536 1 = [1]:=by
  rw [zdZ (by decide) (by decide)]
  rfl
 refine ⟨?_,Nat.le_refl _,by omega⟩
 rw [e]
 refine ⟨rfl,fun _ => ⟨_,rfl,h.lt,fun j u hu => ?_⟩⟩
 match j,hu with
 | 0,hu => simp [zaq] at hu; subst hu; exact h.cell 0
def zjJ (w : World) (q r : Nat) (e : Ending) (w' : World) : Prop:=∃ (A : oA9) (n c : Nat) (B : oA9) (m d : Nat),e = .returned (.tuple #[.slice A n c,.slice B m d]) ∧ zai w' q A n c ∧ zai w' r B m d ∧ Below w.heap.size w w'
theorem div_no {m y b : Nat} (hb : b < 2) (h : m % y * 2 + b < y) : (m + m + b) / y = m / y * 2 + 0 ∧ (m + m + b) % y = m % y * 2 + b:=by
 have h1:=Nat.div_add_mod m y
 have e : m + m + b = y * (m / y * 2) + (m % y * 2 + b):=by rw [Nat.mul_comm (m / y) 2,Nat.mul_left_comm]; omega
 rw [e,Nat.mul_add_div (by omega),Nat.mul_add_mod,Nat.div_eq_of_lt h,Nat.mod_eq_of_lt h]
 exact ⟨rfl,rfl⟩
theorem div_yes {m y b : Nat} (hy : y ≠ 0) (hb : b < 2) (h : y ≤ m % y * 2 + b) : (m + m + b) / y = m / y * 2 + 0 + 1 ∧ (m + m + b) % y = m % y * 2 + b - y:=by
 have h1:=Nat.div_add_mod m y
 have h2:=Nat.mod_lt m (y:=y) (by omega)
 have h3 : m % y * 2 + b - y < y:=by omega
 have e : m + m + b = y * (m / y * 2 + 1) + (m % y * 2 + b - y):=by rw [Nat.mul_add,Nat.mul_comm (m / y) 2,Nat.mul_left_comm]; omega
 rw [e,Nat.mul_add_div (by omega),Nat.mul_add_mod,Nat.div_eq_of_lt h3,Nat.mod_eq_of_lt h3]
 exact ⟨rfl,rfl⟩
theorem zmd (x y : Nat) : decide (0 ≤ zbs x y) = decide (y ≤ x):=by
 rw [Bool.eq_iff_iff]
 simp only [decide_eq_true_eq]
 unfold zbs
 split
 ·omega
 ·split <;> omega
theorem zhL (x y : Nat) (A D : oA9) (n m c d : Nat) (w : World) (hA : zai w x A n c) (hD : zai w y D m d) (hn : n ≤ 17179869184) (hm : m ≤ 17179869184) (hy : y ≠ 0) :
  Calls Tryz.prog 86 #[.slice A n c,.slice D m d] w (zjJ w (x / y) (x % y)):=by
 have hlx:=lh9 hA.len
 have hly:=lh9 hD.len
 have HA:=lh9 (fun w' (hb : Below w.heap.size w w') => hA.below hb)
 have HD:=lh9 (fun w' (hb : Below w.heap.size w w') => hD.below hb)
 have RB:=zks x A n c w hA (by omega)
 have hbl : bitLen x ≤ 16 * n:=by
  have h1:=zaU (b:=65536) (by decide) x
  rw [← hA.len,show (65536 : Nat) = 2 ^ 16 from rfl,← Nat.pow_mul] at h1
  exact zcS _ _ h1
 have h0 : x / 2 ^ bitLen x = 0:=Nat.div_eq_of_lt (lt_bits x)
 obtain ⟨l,hl⟩ : ∃ l,bitLen x = l:=⟨_,rfl⟩
 rw [hl] at RB hbl h0
 have HRB:=lh9 RB
 have H0:=lh9 h0
 clear hA hD RB hl h0
 go_enter Tryz.func86,Tryz.ntmps86
 go_wp2_with fail
 refine HRB.out.mono ?_
 rintro e w' ⟨rfl,rfl⟩
 go_wp2_with fail
 go_loopg [6,7,8] (l + 1) (fun g qs rs ix wr => ∃ (j : Nat) (A1 : oA9) (n1 c1 : Nat) (A2 : oA9) (n2 c2 : Nat),j ≤ l ∧ j < g ∧ ix = .int .i64 ((j : Int) - 1) ∧ qs = .slice A1 n1 c1 ∧ rs = .slice A2 n2 c2 ∧ Hid (zai wr (x / 2 ^ j / y) A1 n1 c1) ∧ Hid (zai wr (x / 2 ^ j % y) A2 n2 c2) ∧ Below w.heap.size w wr)
 case atStart =>
  refine ⟨l,none,0,0,none,0,0,Nat.le_refl _,by omega,rfl,rfl,rfl,?_,?_,Below.refl _ _⟩
  ·show zai _ _ _ _ _; rw [H0.out,Nat.zero_div]; exact zbN _
  ·show zai _ _ _ _ _; rw [H0.out,Nat.zero_mod]; exact zbN _
 case round =>
  obtain ⟨j,A1,n1,c1,A2,n2,c2,hjl,hg,rfl,rfl,rfl,hq,hr,hB⟩:=hrel
  by_cases hj : j = 0
  ·subst hj
   have e1:=hq.out
   have e2:=hr.out
   rw [Nat.pow_zero,Nat.div_one] at e1 e2
   have HG : Hid (zjJ w (x / y) (x % y) (.returned (.tuple #[.slice A1 n1 c1,.slice A2 n2 c2])) wr):=⟨_,_,_,_,_,_,rfl,e1,e2,hB⟩
   clear hq hr e1 e2
   go_wp2
   go_ret2
   exact HG.out
  ·obtain ⟨i,rfl⟩ : ∃ i,j = i + 1:=⟨j - 1,by omega⟩
   have hqn : n1 ≤ n:=by
    rw [hq.out.len,hlx.out]
    exact zbe (by decide) (Nat.le_trans (Nat.div_le_self _ _) (Nat.div_le_self _ _))
   have hrn : n2 ≤ m:=by
    rw [hr.out.len,hly.out]
    exact zbe (by decide) (Nat.le_of_lt (Nat.mod_lt _ (by omega)))
   have hbit : x / 2 ^ i % 2 < 2:=Nat.mod_lt _ (by decide)
   have hst:=shr_step x i
   have WB:=ref2_bit x i A n c wr (HA.out _ hB) (by omega) (by omega)
   obtain ⟨M,hM⟩ : ∃ M,x / 2 ^ (i + 1) = M:=⟨_,rfl⟩
   obtain ⟨b,hb⟩ : ∃ b,x / 2 ^ i % 2 = b:=⟨_,rfl⟩
   rw [hM] at hq hr hst
   rw [hb] at hst hbit WB
   have S1:=zdj (M % y) 2 b A2 n2 c2 wr hr.out (by omega) (by decide) (by omega)
   have HWB:=lh9 WB
   have HS1:=lh9 S1
   have HST:=lh9 hst
   have hr1 : (dg 65536 (M % y * 2 + b)).length ≤ n2 + 1:=by
    refine zaT (by decide) _ _ ?_
    have h1:=zaU (b:=65536) (by decide) (M % y)
    rw [← hr.out.len] at h1
    rw [Nat.pow_succ]; omega
   have hq1 : (dg 65536 (M / y * 2 + 0)).length ≤ n1 + 1:=by
    refine zaT (by decide) _ _ ?_
    have h1:=zaU (b:=65536) (by decide) (M / y)
    rw [← hq.out.len] at h1
    rw [Nat.pow_succ]; omega
   clear WB S1 hM hb hr hst
   go_wp2_with fail
   refine HWB.out.mono ?_
   rintro e w' ⟨rfl,rfl⟩
   go_wp2_with fail
   refine HS1.out.mono ?_
   intro e w1 hg1
   obtain ⟨A3,n3,c3,rfl,hh3,hb1⟩:=hg1.elim
   have hB1:=zac hB hb1
   have hn3 : n3 ≤ m + 1:=by rw [hh3.len]; omega
   have HS2:=lh9 (zdj (M / y) 2 0 A1 n1 c1 w1 (hq.out.below hb1) (by omega) (by decide) (by decide))
   have H3:=lh9 hh3
   clear hg1 hh3 hb1 hq HS1
   go_wp2_with fail
   refine HS2.out.mono ?_
   intro e w2 hg2
   obtain ⟨A4,n4,c4,rfl,hh4,hb2⟩:=hg2.elim
   have hB2:=zac hB1 hb2
   have hn4 : n4 ≤ n + 1:=by rw [hh4.len]; omega
   have H3:=lh9 (H3.out.below hb2)
   have H4:=lh9 hh4
   have HCM:=lh9 (zgM (M % y * 2 + b) y A3 D n3 m c3 d w2 H3.out (HD.out _ hB2) (by omega) (by omega))
   clear hg2 hh4 hb2 HS2
   go_wp2_with fail
   refine HCM.out.mono ?_
   rintro e w3 ⟨rfl,q,rfl⟩
   clear HCM
   by_cases hlt : M % y * 2 + b < y
   ·have hd : decide (zbs (M % y * 2 + b) y ≥ 0) = false:=by
     show decide (0 ≤ zbs _ _) = false
     rw [zmd]; simp; omega
    have hd2 : decide (0 ≤ zbs (M % y * 2 + b) y) = false:=hd
    obtain ⟨e1,e2⟩:=div_no hbit hlt
    rw [← HST.out] at e1 e2
    have HQ : Hid (zai (w2.drewN q) (x / 2 ^ i / y) A4 n4 c4):=by show zai _ _ _ _ _; rw [e1]; exact H4.out
    have HR : Hid (zai (w2.drewN q) (x / 2 ^ i % y) A3 n3 c3):=by show zai _ _ _ _ _; rw [e2]; exact H3.out
    have hB3:=zbj hB2 q
    obtain ⟨z,hz⟩ : ∃ z,zbs (M % y * 2 + b) y = z:=⟨_,rfl⟩
    rw [hz] at hd hd2 ⊢
    clear e1 e2 hz hlt
    go_wp2
    go_roundg (i + 1)
    case measure => omega
    case rel => exact ⟨i,_,_,_,_,_,_,by omega,by omega,by go_num,rfl,rfl,HQ,HR,hB3⟩
   ·have hd : decide (zbs (M % y * 2 + b) y ≥ 0) = true:=by
     show decide (0 ≤ zbs _ _) = true
     rw [zmd]; simp; omega
    have hd2 : decide (0 ≤ zbs (M % y * 2 + b) y) = true:=hd
    obtain ⟨e1,e2⟩:=div_yes hy hbit (by omega : y ≤ M % y * 2 + b)
    rw [← HST.out] at e1 e2
    have HS3:=lh9 (zft (M % y * 2 + b) y (by omega) A3 D n3 m c3 d (w2.drewN q) H3.out (HD.out _ (zbj hB2 q)) (by omega) (by omega))
    have E1:=lh9 e1
    have E2:=lh9 e2
    have hB3:=zbj hB2 q
    obtain ⟨z,hz⟩ : ∃ z,zbs (M % y * 2 + b) y = z:=⟨_,rfl⟩
    rw [hz] at hd hd2 ⊢
    clear e1 e2 hz hlt
    go_wp2_with fail
    refine HS3.out.mono ?_
    intro e w4 hg3
    obtain ⟨A5,n5,c5,rfl,hh5,hb3⟩:=hg3.elim
    have hB4:=zac hB3 hb3
    have H4b : zai (w2.drewN q) (M / y * 2 + 0) A4 n4 c4:=H4.out
    have st:=zbH w4 (.cells #[.int .i64 1] 3)
    have h1:=zpB _ _ (Blk.new w4 3 #[.int .i64 1])
    have HS4:=lh9 (ref2_add (M / y * 2 + 0) 1 A4 (some ⟨w4.heap.size,0,none⟩) n4 1 c4 1 _ ((H4b.below hb3).below st) h1 (by omega) (by omega))
    have H5:=lh9 (hh5.below st)
    have hB5:=zac hB4 st
    clear hg3 hh5 hb3 HS3 H4b h1 st
    go_wp2_with fail
    refine HS4.out.mono ?_
    intro e w5 hg4
    obtain ⟨A6,n6,c6,rfl,hh6,hb4⟩:=hg4.elim
    have hB6:=zac hB5 hb4
    have HQ : Hid (zai w5 (x / 2 ^ i / y) A6 n6 c6):=by show zai _ _ _ _ _; rw [E1.out]; exact hh6
    have HR : Hid (zai w5 (x / 2 ^ i % y) A5 n5 c5):=by show zai _ _ _ _ _; rw [E2.out]; exact H5.out.below hb4
    clear hg4 hh6 hb4 HS4
    go_wp2
    go_roundg (i + 1)
    case measure => omega
    case rel => exact ⟨i,_,_,_,_,_,_,by omega,by omega,by go_num,rfl,rfl,HQ,HR,hB6⟩
end Go.Proofs.YtfieheffipfahaaGreatDoor
