/- What this claim leans on. -/
import Derived.Test.YtfieheffipfahaaGreatDoorRBun6b
namespace Go.Proofs.YtfieheffipfahaaGreatDoor
open Go Go.RowKit
set_option maxHeartbeats 16000000
set_option maxRecDepth 100000
set_option linter.unusedVariables false
theorem zkt (x mm : Nat) (A : oA9) (n c : Nat) (w : World) (hA : zai w x A n c) (hn : n ≤ 274877906944) (hm0 : 0 < mm) (hm1 : mm ≤ 32768) :
  Calls Tryz.prog 125 #[.slice A n c,.int .i64 mm] w (zgV w x mm):=by
 obtain ⟨i0,hi0,hz0,hz1,hz2⟩:=info_parts ziL
 have HLN:=lh9 hA.len
 have hR:=hA.1
 clear hA
 obtain ⟨Z,hZ⟩ : ∃ Z,madeCells (Value.cells (.int .i64 0)) (n * i0.size) = Z:=⟨_,rfl⟩
 have HZ : Hid (Z.size = n):=by show _ = _; rw [← hZ,size_madeCells,hz1,Nat.mul_one]
 have hmk : ∀ W : World,(Instr.makeSlice 35 (.int .i64 (n : Int)) (.int .i64 (n : Int))).run Tryz.prog W = .ok (.slice (some ⟨W.heap.size,0,none⟩) n n) (W.alloc (.cells Z 3)):=fun W => by
  rw [← hZ]; exact zbz _ _ i0 _ Tryz.underlying35 hi0 hz0 _ _ n n (Nat.le_refl _) (by rw [hz2]; omega) (by omega) W
 clear hZ
 go_enter Tryz.func125,Tryz.ntmps125
 go_wp2
 clear hmk
 go_loopg [7,8,9] (n + 1) (fun g s i _ wr => ∃ (k left : Nat) (cs : Array Value) (out : List Nat),k ≤ n ∧ k < g ∧ i = .int .i64 ((k : Int) - 1) ∧ s = .int .i64 left ∧ zeB x mm n k out left ∧
   Blk wr w.heap.size 3 cs ∧ cs.size = n ∧ cs.toList.drop k = zaq .i64 out ∧ Below w.heap.size w wr)
 case atStart => exact ⟨n,0,Z,[],Nat.le_refl _,by omega,rfl,rfl,zeB.start hm0 (by have:=HLN.out; omega),Blk.new w _ _,HZ.out,by rw [List.drop_of_length_le (by have:=HZ.out; simp; omega)]; rfl,(Below.refl _ _).alloc (Nat.le_refl _) _⟩
 case round =>
  obtain ⟨k,left,cs,out,hk,hg,rfl,rfl,hat,hB,hsz,hdr,hbl⟩:=hrel
  by_cases hk0 : k = 0
  ·subst hk0
   obtain ⟨f1,f2⟩:=hat.done
   have hlen : out.length = n:=by have:=hat.len; omega
   have hrd : zas wr wr.heap.size 1 (some ⟨w.heap.size,0,none⟩) n (zaq .i64 out):=by
    refine ⟨by rw [zaC]; omega,fun _ => ⟨_,rfl,hB.lt,fun j u hu => ?_⟩⟩
    have e : (⟨w.heap.size,0,none⟩ : Addr).add j = ⟨w.heap.size,j,none⟩:=by unfold Addr.add; split <;> simp_all
    rw [e,hB.cell j,← Array.getElem?_toList]
    rw [List.drop_zero] at hdr
    rw [hdr]; exact hu
   have T:=zku (some ⟨w.heap.size,0,none⟩) n n out wr hrd hat.dgs (Nat.le_refl _) (by omega) (by omega)
   rw [f1] at T
   have HT:=lh9 T
   have F2:=lh9 f2
   clear T hrd f1 f2 hat hdr hsz hlen
   go_wp2_with fail
   refine HT.out.mono ?_
   intro e w2 hg2
   have hg3:=hg2.from_ hbl
   obtain ⟨A2,n2,c2,rfl,hh2,hb2⟩:=hg2.elim
   have HG3:=lh9 hg3
   clear hg2 hh2 hb2 hg3
   go_wp2_with fail
   go_ret2
   exact ⟨_,by rw [← F2.out]; rfl,HG3.out⟩
  ·obtain ⟨j,rfl⟩ : ∃ j,k = j + 1:=⟨k - 1,by omega⟩
   obtain ⟨ad,rfl,hadb,hc0⟩:=zbg hR (k:=j) (by omega)
   have hc1 : wr.cell? (ad.add j) = some (.int .i64 ((dg 65536 x).getD j 0 : Nat)):=(hbl.cell (by rw [zaK]; exact hadb)).trans hc0
   rw [zfR] at hc1
   have ha1 : x / 65536 ^ j % 65536 < 65536:=Nat.mod_lt _ (by decide)
   have hst:=hat.step hk rfl
   have hleft:=hat.rest
   obtain ⟨a,ha⟩ : ∃ b,x / 65536 ^ j % 65536 = b:=⟨_,rfl⟩
   rw [ha] at hc1 ha1 hst
   have hfr:=hB.frozen j
   have hcell : ∃ u,wr.cell? ⟨w.heap.size,j,none⟩ = some u:=by
    rw [hB.cell j]
    exact ⟨cs[j]'(by omega),Array.getElem?_eq_getElem (by omega)⟩
   obtain ⟨u,hu⟩:=hcell
   have HST:=lh9 hst
   have HS:=lh9 hsz
   have HD:=lh9 hdr
   clear hst ha hat hc0 hsz hdr
   go_wp2
   go_roundg (j + 1)
   case measure => omega
   case rel => exact ⟨j,(left * 65536 + a) % mm,cs.setIfInBounds j (.int .i64 (((left : Int) * 65536 + (a : Int)) / (mm : Int))),_,by omega,by omega,by go_num,by go_num,HST.out,hB.set_ _ _,by simpa using HS.out,by rw [drop_set _ _ _ (by have:=HS.out; omega),HD.out]; simp [zaq],hbl.setCell (Nat.le_refl _) _⟩
set_option linter.unusedSimpArgs false
theorem infoB6 : (Tryz.prog.info? 5).map (fun i => (i.zero,i.size,i.bytes)) = some (some (.int .u8 0),1,1):=by kernel_rfl
def zfQ (b x y : Nat) (D : List Nat) : Prop:=D ++ dg b y = dg b x
theorem zfQ.step {b x y : Nat} {D : List Nat} (h : zfQ b x y D) (hb : 2 ≤ b) (hy : y ≠ 0) : zfQ b x (y / b) (D ++ [y % b]):=by
 unfold zfQ at h ⊢
 rw [← h,zdZ hb hy,List.append_assoc]
 rfl
theorem zmq {w w' : World} {x : Nat} {B : oA9} {m d : Nat} (h : zai w x B m d) {row : Option Nat} (hg : w.grownBy w' row) (hr : 0 < m → ∀ ad,B = some ad → some ad.block ≠ row) : zai w' x B m d:=by
 obtain ⟨hr0,h1,h2⟩:=h
 refine ⟨⟨hr0.1,fun hn => ?_⟩,h1,h2⟩
 obtain ⟨ad,e,hb,hc⟩:=hr0.2 hn
 refine ⟨ad,e,Nat.lt_of_lt_of_le hb hg.size,fun j u hu => ?_⟩
 exact (World.cell?_of_block (hg.block _ (by rw [zaK]; exact hb) (by rw [zaK]; exact hr hn ad e))).trans (hc j u hu)
theorem zcF.holds {w w' : World} {v v' : Value} {x m d : Nat} {B : oA9} (h : zcF v B m) (hx : zai w x B m d) (hg : zck w v w' v') : zai w' x B m d ∧ zcF v' B m:=by
 refine ⟨zmq hx hg.grown (fun hm ad e => (h hm ad e).symm),fun hm ad e => ?_⟩
 rcases hg.at_ with h1 | h1
 ·rw [h1]; exact h hm ad e
 ·intro h2
  have:=h1 _ h2
  obtain ⟨ad',e',hb,_⟩:=hx.1.2 hm
  rw [e] at e'
  injection e' with e'
  subst e'
  omega
def zkK (w : World) (l : List Nat) (e : Ending) (w' : World) : Prop:=∃ v,e = .returned v ∧ w'.ownsRow w.heap.size 3 1 v l.length (zaq .i64 l) ∧ Below w.heap.size w w'
theorem zpS (x b : Nat) (A : oA9) (n c : Nat) (w : World) (hA : zai w x A n c) (hn : n ≤ 1048576) (hb2 : 2 ≤ b) (hb : b ≤ 256) :
  Calls Tryz.prog 94 #[.slice A n c,.int .i64 b] w (zkK w (dg b x)):=by
 obtain ⟨i0,hi0,hz0,hz1,hz2⟩:=info_parts ziL
 have HSM : Hid (∀ y D,zfQ b x y D → (dg 65536 y).length ≤ n ∧ D.length ≤ 16 * n):=fun y D h => by
  have h1 : (dg b x).length ≤ 16 * n:=by
   refine zaT hb2 _ _ (Nat.lt_of_lt_of_le (zaU (b:=65536) (by decide) x) ?_)
   rw [← hA.len,show (65536 : Nat) = 2 ^ 16 from rfl,← Nat.pow_mul]
   exact Nat.pow_le_pow_left hb2 _
  have h2 : D.length ≤ (dg b x).length:=by rw [← h]; simp
  have h3 : y ≤ x:=by
   have e:=congrArg (dv b) h
   rw [zbl,zbZ hb2,zbZ hb2] at e
   have:=Nat.mul_le_mul_right y (Nat.pow_pos (n:=D.length) (show 0 < b by omega))
   omega
  exact ⟨by rw [hA.len]; exact zbe (by decide) h3,by omega⟩
 have HST : Hid (∀ y D,zfQ b x y D → y ≠ 0 → zfQ b x (y / b) (D ++ [y % b])):=fun y D h hy => h.step hb2 hy
 have HT0 : Hid (zfQ b x x []):=rfl
 go_enter Tryz.func94,Tryz.ntmps94
 go_wp2_with fail
 go_loopg [0,5] (x + 1) (fun gg s t wr => ∃ (tv : Value) (y : Nat) (D : List Nat) (B : oA9) (m d : Nat),tv = t ∧ s = .slice B m d ∧ y < gg ∧ Hid (zfQ b x y D) ∧ wr.ownsRow w.heap.size 3 1 tv D.length (zaq .i64 D) ∧ zai wr y B m d ∧ zcF tv B m ∧ Below w.heap.size w wr)
 case atStart => exact ⟨_,x,[],A,n,c,rfl,rfl,by omega,HT0,World.ownsRow_nil _ _ _ _,hA,zcF.none_ _ _,Below.refl _ _⟩
 case round =>
  clear hA HT0
  obtain ⟨tv,y,D,B,m,d,rfl,rfl,hyg,HTB,hown,hh,has,hB⟩:=hrel
  obtain ⟨hm1,hD1⟩:=HSM.out y D HTB.out
  rw [← hh.len] at hm1
  by_cases hy : y = 0
  ·subst hy
   have hm0 : m = 0:=by rw [hh.len,zcw]; rfl
   subst hm0
   have HE : Hid (D = dg b x):=by have:=HTB.out; unfold zfQ at this; rw [zcw,List.append_nil] at this; exact this
   have HG : Hid (zkK w (dg b x) (.returned tv) wr):=by
    show zkK _ _ _ _
    rw [← HE.out]
    exact ⟨tv,rfl,hown,hB⟩
   clear HE hown hh has hB HTB
   go_wp2
   go_ret
   exact HG.out
  ·have hm0 : (0 : Int) < (m : Int):=by
    have h1:=(zeR (b:=65536) (by decide) y hy).1
    rw [← hh.len] at h1
    omega
   have HS2:=lh9 (HST.out y D HTB.out hy)
   have HLT : Hid (y / b < y):=Nat.div_lt_self (Nat.pos_of_ne_zero hy) (by omega)
   have HHF:=lh9 (zkt y b B m d wr hh (by omega) (by omega) (by omega))
   have hrb : y % b < 256:=Nat.lt_of_lt_of_le (Nat.mod_lt _ (by omega)) hb
   unfold zgV at HHF
   obtain ⟨p,hp⟩ : ∃ p,y % b = p:=⟨_,rfl⟩
   obtain ⟨q,hq⟩ : ∃ p,y / b = p:=⟨_,rfl⟩
   rw [hp] at HS2 hrb HHF
   rw [hq] at HS2 HLT HHF
   clear hp hq hh has HTB hy
   go_wp2_with fail
   refine HHF.out.mono ?_
   rintro e w1 ⟨v1,rfl,hg1⟩
   obtain ⟨B1,c1,ev,hr1,hfit,⟨hc1,hfr⟩,hb1⟩:=hg1
   cases ev
   have hh1 : zai w1 q B1 (dg 65536 q).length c1:=⟨hr1,hfit,hc1⟩
   obtain ⟨m1,hm1e⟩ : ∃ m,(dg 65536 q).length = m:=⟨_,rfl⟩
   rw [hm1e] at hh1 ⊢
   have has1 : zcF tv B1 m1:=zcF.fresh hfr hown
   have hown1:=zdI hown hb1
   have hB1:=zac hB hb1
   have hsz:=hB1.size
   clear hr1 hfit hfr hm1e hown hB HHF hb1
   go_wp2_with (at_builtin; refine zbo _ rfl (.tmp 17) (.tmp 19) 35 rfl w.heap.size 3 i0 (.int .i64 0) 1 8 Tryz.underlying35 hi0 hz0 hz1 hz2 rfl (by decide) tv D.length (zaq .i64 D) rfl (hown1.alloc _) (w1.heap.size + 1) (some ⟨w1.heap.size,0,none⟩) 1 1 [.int .i64 (p : Int)] rfl ⟨rfl,fun _ => ⟨_,rfl,by simp,zbS _ _ _⟩⟩ (zcJ _ _) (by unfold maxLen; omega) (by omega) (by simp; omega) ?_; intro v' w2 hown' hgrow hat)
   have hG2 : zck w1 tv w2 v':=(zck.alloc w1 tv _).trans ⟨hgrow,hat.imp id fun h g hg => by rw [h] at hg; cases hg; exact Nat.le_refl _⟩
   obtain ⟨hh2,has2⟩:=has1.holds hh1 hG2
   have hB2:=hG2.belowOf hown1 hB1 (Nat.le_refl _)
   have hown2 : w2.ownsRow w.heap.size 3 1 v' (D ++ [p]).length (zaq .i64 (D ++ [p])):=by
    rw [zaY,List.length_append]; exact hown'
   clear hown' hgrow hat hG2 has1 hh1 hown1 hB1
   go_wp2
   go_roundg y
   case measure => omega
   case rel => exact ⟨v',q,_,B1,m1,c1,rfl,rfl,HLT.out,HS2,hown2,hh2,has2,hB2⟩
theorem zkw (x : Nat) (A : oA9) (n c : Nat) (w : World) (hA : zai w x A n c) (hn : n ≤ 1048576) :
  Calls Tryz.prog 49 #[.slice A n c] w fun e w' => e = .returned (.string (zau (zbf x))) ∧ Below w.heap.size w w':=by
 obtain ⟨i0,hi0,hz0,hz1,hz2⟩:=info_parts infoB6
 have HBK:=lh9 (zpS x 10 A n c w hA hn (by decide) (by decide))
 have hsm : (dg 10 x).length ≤ 16 * n:=by
  refine zaT (by decide) _ _ (Nat.lt_of_lt_of_le (zaU (b:=65536) (by decide) x) ?_)
  rw [← hA.len,show (65536 : Nat) = 2 ^ 16 from rfl,← Nat.pow_mul]
  exact Nat.pow_le_pow_left (by decide) _
 have HDD:=lh9 (zbE (b:=10) (by decide) x)
 have HTZ : Hid (x = 0 → zau (zbf x) = ⟨#[48]⟩):=fun h => by rw [h]; rfl
 have HTP : Hid (x ≠ 0 → strL (chN (dg 10 x)).reverse = zau (zbf x)):=fun h => zpb h
 have HX0 : Hid (dg 10 x = [] → x = 0):=fun h => by have:=zbZ (b:=10) (by decide) x; rw [h] at this; exact this.symm
 have HXN : Hid (dg 10 x ≠ [] → x ≠ 0):=fun h e => h (by rw [e]; rfl)
 obtain ⟨D,hD⟩ : ∃ d,dg 10 x = d:=⟨_,rfl⟩
 rw [hD] at HBK hsm HDD HTP HX0 HXN
 obtain ⟨N,hN⟩ : ∃ N,D.length = N:=⟨_,rfl⟩
 rw [hN] at hsm
 have HNL:=lh9 hN
 clear hA hD hN
 go_enter Tryz.func49,Tryz.ntmps49
 go_wp2_with fail
 refine HBK.out.mono ?_
 rintro e w1 ⟨v1,rfl,hown1,hb1⟩
 obtain ⟨A1,c1,rfl,hc1,hc2,hr1⟩:=zas.of_grown_own hown1
 have HR:=lh9 (fun (k : Nat) (hk : k < N) w' (h : Below w1.heap.size w1 w') => zbg (hr1.below h) (by rw [HNL.out]; exact hk))
 have HNI : Hid ((D.length : Int) = (N : Int)):=by show _ = _; rw [HNL.out]
 have hsz:=hb1.size
 rw [HNL.out]
 clear hown1 hr1 hc1 hc2 HBK
 go_wp2_with fail
 go_loopg [4,5] (N + 1) (fun gg t i wr => ∃ (tv : Value) (k : Nat),tv = t ∧ i = .int .i64 ((k : Int) - 1) ∧ k ≤ N ∧ k < gg ∧ wr.ownsRow w1.heap.size 5 1 tv (N - k) (zaq .u8 (chN (D.drop k)).reverse) ∧ Below w1.heap.size w1 wr)
 case atStart => exact ⟨_,N,rfl,rfl,Nat.le_refl _,by omega,by rw [Nat.sub_self,List.drop_of_length_le (by rw [HNL.out]; exact Nat.le_refl _)]; exact World.ownsRow_nil _ _ _ _,Below.refl _ _⟩
 case round =>
  obtain ⟨tv,k,rfl,rfl,hk,hg,hown,hB⟩:=hrel
  by_cases hk0 : k = 0
  ·subst hk0
   have hBB:=hb1.trans (hB.mono hsz)
   rw [List.drop_zero,Nat.sub_zero] at hown
   rcases Nat.eq_zero_or_pos N with h0 | h0
   ·subst h0
    have hx:=HX0.out (List.eq_nil_of_length_eq_zero HNL.out)
    have HQ:=lh9 (HTZ.out hx)
    obtain ⟨A2,c2,rfl,_,_,_⟩:=zas.of_grown_own hown
    clear hown hB hx
    go_wp2
    go_ret
    exact ⟨by rw [HQ.out]; rfl,hBB⟩
   ·have hx:=HXN.out (fun h => by have:=HNL.out; rw [h] at this; simp at this; omega)
    obtain ⟨A2,c2,rfl,_,_,hr2⟩:=zas.of_grown_own hown
    have hst:=zeL (P:=Tryz.prog) 42 9 5 Tryz.underlying42 Tryz.underlying5 Tryz.underlying9 (c:=c2) hr2
    rw [HTP.out hx] at hst
    obtain ⟨Q,hQ⟩ : ∃ q,zau (zbf x) = q:=⟨_,rfl⟩
    rw [hQ] at hst
    have HQ:=lh9 hQ
    have h1 : ((N : Int) == 0) = false:=by rw [beq_eq_false_iff_ne]; omega
    clear hown hB hx hr2 hQ
    go_wp2
    go_ret
    exact ⟨by rw [HQ.out]; rfl,hBB⟩
  ·obtain ⟨j,rfl⟩ : ∃ j,k = j + 1:=⟨k - 1,by omega⟩
   obtain ⟨ad,rfl,hadb,hc⟩:=HR.out j (by omega) wr hB
   have hdl:=HDD.out.getD (by decide) j
   have hst : (chN (D.drop j)).reverse = (chN (D.drop (j + 1))).reverse ++ [48 + D.getD j 0]:=by
    have hj : j < D.length:=by rw [HNL.out]; omega
    unfold chN
    rw [List.drop_eq_getElem_cons hj,List.map_cons,List.reverse_cons,List.getD_eq_getElem?_getD,List.getElem?_eq_getElem hj]
    rfl
   obtain ⟨d,hd⟩ : ∃ d,D.getD j 0 = d:=⟨_,rfl⟩
   rw [hd] at hc hdl hst
   have HST:=lh9 hst
   have j1 : IntKind.u8.wrap (48 + (d : Int)) = ((48 + d : Nat) : Int):=by simp [IntKind.wrap,IntKind.bits,IntKind.signed]; omega
   have i1 : (0 : Int) ≤ (j : Int):=by omega
   have i2 : (j : Int) < (N : Int):=by omega
   have hbz:=hB.size
   have hNj : N - (j + 1) + 1 = N - j:=by omega
   have HNJ:=lh9 hNj
   clear hd hst hNj
   go_wp2_with (at_builtin; refine zbo _ rfl (.tmp 15) (.tmp 22) 42 rfl w1.heap.size 5 i0 (.int .u8 0) 1 1 Tryz.underlying42 hi0 hz0 hz1 hz2 rfl (by decide) tv (N - (j + 1)) (zaq .u8 (chN (D.drop (j + 1))).reverse) rfl (hown.alloc _) (wr.heap.size + 1) (some ⟨wr.heap.size,0,none⟩) 1 1 [.int .u8 ((48 + d : Nat) : Int)] rfl ⟨rfl,fun _ => ⟨_,rfl,by simp,zbS _ _ _⟩⟩ (zcJ _ _) (by unfold maxLen; omega) (by omega) (by simp; omega) ?_; intro v' w2 hown' hgrow hat)
   have hG2 : zck wr tv w2 v':=(zck.alloc wr tv _).trans ⟨hgrow,hat.imp id fun h g hg => by rw [h] at hg; cases hg; exact Nat.le_refl _⟩
   have hB2:=hG2.belowOf hown hB (Nat.le_refl _)
   have hown2 : w2.ownsRow w1.heap.size 5 1 v' (N - j) (zaq .u8 (chN (D.drop j)).reverse):=by
    rw [HST.out,zaY,← HNJ.out]; exact hown'
   clear hown' hgrow hat hG2 hown hB HST
   go_wp2
   go_roundg (j + 1)
   case measure => omega
   case rel => exact ⟨v',j,rfl,by go_num,by omega,by omega,hown2,hB2⟩
def zfY (w : World) (x : Nat) (b : Bool) (e : Ending) (w' : World) : Prop:=∃ (A : oA9) (n c : Nat),e = .returned (.tuple #[.slice A n c,.bool b]) ∧ zai w' x A n c ∧ Below w.heap.size w w'
theorem zqe (l : List Nat) {k : Nat} (h : k < l.length) : zcE (l.take (k + 1)) = zcE (l.take k) * 256 + l.getD k 0:=by
 unfold zcE
 rw [List.take_succ_eq_append_getElem h,List.reverse_append,List.reverse_singleton,List.singleton_append]
 show l[k] + 256 * _ = _
 rw [List.getD_eq_getElem?_getD,List.getElem?_eq_getElem h,Nat.add_comm,Nat.mul_comm]
 rfl
theorem znq {l : List Nat} (hd : Dgs 256 l) : (dg 65536 (zcE l)).length ≤ l.length:=by
 have h1:=zbQ (b:=256) (l:=l.reverse) (fun d hd' => hd d (by simpa using hd'))
 rw [List.length_reverse] at h1
 exact zaT (by decide) _ _ (Nat.lt_of_lt_of_le h1 (Nat.pow_le_pow_left (by decide) _))
theorem zot (l : List Nat) (A : oA9) (n c : Nat) (w : World) (hr : zas w w.heap.size 1 A n (zaq .u8 l)) (hd : Dgs 256 l) (hn : n ≤ 2147483648) :
  Calls Tryz.prog 96 #[.slice A n c] w (zfY w (if zbi l then zcE l else 0) (zbi l)):=by
 have hl:=hr.len_
 have HL:=lh9 hl
 have HD:=lh9 hd
 have HR:=lh9 (fun w' (h : Below w.heap.size w w') => (hr.below h).more h.size)
 have hcase : (n = 0 ∧ zbi l = true) ∨ (0 < n ∧ l.getD 0 0 = 0 ∧ zbi l = false) ∨ (0 < n ∧ l.getD 0 0 ≠ 0 ∧ zbi l = true):=by
  match l,hl with
  | [],hl => exact .inl ⟨by simpa using hl.symm,rfl⟩
  | a :: t,hl =>
    have h0 : 0 < n:=by simp at hl; omega
    by_cases ha : a = 0
    ·exact .inr (.inl ⟨h0,by simpa using ha,by simp [zbi,ha]⟩)
    ·exact .inr (.inr ⟨h0,by simpa using ha,by simp [zbi,ha]⟩)
 have hB:=Below.refl w.heap.size w
 rcases hcase with ⟨h0,hp⟩ | ⟨h0,hz,hp⟩ | ⟨h0,hz,hp⟩
 ·rw [hp,if_pos rfl]
  have hv : Hid (zcE l = 0):=by
   show _ = _
   rw [List.eq_nil_of_length_eq_zero (hl.trans h0)]; rfl
  subst h0
  clear hr hd hl hp HR HL HD
  go_enter Tryz.func96,Tryz.ntmps96
  go_wp2_with fail
  go_loop [4,5] (fun u ix => u = .slice none 0 0 ∧ ix = .int .i64 0) (fun _ _ => 1)
  case atStart => exact ⟨rfl,rfl⟩
  case round =>
   obtain ⟨rfl,rfl⟩:=hrel
   go_wp2
   go_ret2
   exact ⟨none,0,0,rfl,by rw [hv.out]; exact zbN _,hB⟩
 ·obtain ⟨ad,rfl,hadb,hc0⟩:=zbg hr (k:=0) h0
  rw [hz] at hc0
  have hc1 : w.cell? ad = some (.int .u8 ((0 : Nat) : Int)):=by rw [← zdG ad]; exact hc0
  rw [hp]
  have i1 : (0 : Int) < (n : Int):=by omega
  clear hr hd hl hp hz HR HL HD
  go_enter Tryz.func96,Tryz.ntmps96
  go_wp2
  go_ret2
  exact ⟨none,0,0,rfl,by first | exact zbN _ | (rw [if_neg (by simp)]; exact zbN _),hB⟩
 ·obtain ⟨ad,rfl,hadb,hc0⟩:=zbg hr (k:=0) h0
  rw [hp,if_pos rfl]
  have i0 : (0 : Int) < (n : Int):=by omega
  obtain ⟨a,ha⟩ : ∃ a,l.getD 0 0 = a:=⟨_,rfl⟩
  rw [ha] at hc0 hz
  have hc1 : w.cell? ad = some (.int .u8 (a : Int)):=by rw [← zdG ad]; exact hc0
  have hz1 : ((a : Int) == 0) = false:=by rw [beq_eq_false_iff_ne]; omega
  clear hr hd hl hp ha
  go_enter Tryz.func96,Tryz.ntmps96
  go_wp2_with fail
  clear hc0 hc1 hz1 hz
  go_loopg [4,5] (n + 1) (fun gg u ix wr => ∃ (k : Nat) (A2 : oA9) (n2 c2 : Nat),k ≤ n ∧ n < gg + k ∧ ix = .int .i64 k ∧ u = .slice A2 n2 c2 ∧ zai wr (zcE (l.take k)) A2 n2 c2 ∧ Below w.heap.size w wr)
  case atStart => exact ⟨0,none,0,0,Nat.zero_le _,by omega,rfl,rfl,zbN _,hB⟩
  case round =>
   clear hB
   obtain ⟨k,A2,n2,c2,hk,hg,rfl,rfl,hh,hB⟩:=hrel
   by_cases hlt : k < n
   ·obtain ⟨ad',e',hadb',hc⟩:=zbg (HR.out _ hB) (k:=k) hlt
    cases e'
    have hdk:=HD.out.getD (by decide) k
    have HST:=lh9 (zqe l (k:=k) (by rw [HL.out]; exact hlt))
    have hn2 : n2 ≤ 549755813888:=by
     rw [hh.len]
     have h1:=znq (HD.out.take k)
     rw [List.length_take] at h1
     omega
    obtain ⟨d,hdd⟩ : ∃ d,l.getD k 0 = d:=⟨_,rfl⟩
    rw [hdd] at hc hdk HST
    have SM:=lh9 (show Calls Tryz.prog 106 #[.slice A2 n2 c2,.int .i64 256,.int .i64 (d : Int)] wr (zbw wr (zcE (l.take k) * 256 + d)) from zdj (zcE (l.take k)) 256 d A2 n2 c2 wr hh hn2 (by decide) (by omega))
    rw [← HST.out] at SM
    have i1 : (0 : Int) ≤ (k : Int):=by omega
    have i2 : (k : Int) < (n : Int):=by omega
    have i3 : IntKind.i64.wrap (d : Int) = (d : Int):=IntWalk.i64_in _ (by omega)
    clear hdd HST hh
    go_wp2_with fail
    refine SM.out.mono ?_
    intro e w3 hg3
    obtain ⟨A3,n3,c3,rfl,hh3,hb⟩:=hg3.elim
    have hB3:=zac hB hb
    clear hb hg3 hB hc
    go_wp2
    go_roundg (n - k)
    case measure => omega
    case rel => exact ⟨k + 1,A3,n3,c3,by omega,by omega,by go_num,rfl,hh3,hB3⟩
   ·have hkn : k = n:=by omega
    subst hkn
    rw [List.take_of_length_le (by rw [HL.out]; exact Nat.le_refl _)] at hh
    go_wp2
    go_ret2
    exact ⟨A2,n2,c2,rfl,hh,hB⟩
theorem zkv (s : ByteArray) (w : World) (hn : s.size ≤ 2147483648) :
  Calls Tryz.prog 59 #[.string s] w (zfY w (if okR s.data.toList then zaG s.data.toList else 0) (okR s.data.toList)):=by
 obtain ⟨L,hL⟩ : ∃ L,s.data.toList = L:=⟨_,rfl⟩
 obtain ⟨S,hS⟩ : ∃ S,s.size = S:=⟨_,rfl⟩
 have HLS:=lh9 (show L.length = S by rw [← hL,zeN,hS])
 have HIX : Hid (∀ k,k < S → ∀ w,(Instr.index 9 (.string s) (.int .i64 (k : Int))).run Tryz.prog w = .ok (.int .u8 (((L.getD k 0).toNat : Nat) : Int)) w):=fun k hk w => by
  have:=zgT (P:=Tryz.prog) Tryz.underlying9 s k (by omega) w
  rw [hL] at this
  exact this
 have q1 : (s.toList == []) = decide (L = []):=zcN _ _ _ (by rw [hL])
 have q2 : (s.toList == [48]) = decide (L = [48]):=zcN _ _ _ (by rw [hL])
 have HBAD : Hid (zgd L = false ∨ L.all zbm = false → okR L = false):=fun h => by
  rw [zfm]
  rcases h with h | h <;> rw [h] <;> simp
 have HGOOD : Hid (zgd L = true → L.all zbm = true → okR L = true):=fun h1 h2 => by rw [zfm,h1,h2]; rfl
 have hB:=Below.refl w.heap.size w
 rw [hL]
 obtain ⟨ob,hob⟩ : ∃ b,okR L = b:=⟨_,rfl⟩
 rw [hob] at HBAD HGOOD ⊢
 clear hL hob
 have hS1 : S ≤ 2147483648:=by omega
 have hv0 : ob = false → (if ob then zaG L else 0) = 0:=fun h => by rw [h]; rfl
 have hv1 : ob = true → (if ob then zaG L else 0) = zaG L:=fun h => by rw [h]; rfl
 obtain ⟨V,hV⟩ : ∃ v,(if ob then zaG L else 0) = v:=⟨_,rfl⟩
 rw [hV] at hv0 hv1 ⊢
 clear hV
 have HV1:=lh9 hv1
 have NO : ob = false → Hid (∀ w',Below w.heap.size w w' → zfY w V ob (.returned (.tuple #[.slice none 0 0,.bool false])) w'):=fun h w' hb => by
  rw [hv0 h,h]
  exact ⟨none,0,0,rfl,zbN _,hb⟩
 clear hv0 hv1
 by_cases h0 : L = []
 ·have HN:=NO (HBAD.out (.inl (by rw [h0]; rfl)))
  rw [decide_eq_true h0] at q1
  clear q2 NO HBAD HGOOD HIX h0
  go_enter Tryz.func59,Tryz.ntmps59
  go_wp2
  go_ret2
  exact HN.out _ hB
 ·rw [decide_eq_false h0] at q1
  have hpos : 0 < S:=by rw [← HLS.out]; exact List.length_pos_iff.2 h0
  have ix0 : ∀ w,(Instr.index 9 (.string s) (.int .i64 0)).run Tryz.prog w = .ok (.int .u8 (((L.getD 0 0).toNat : Nat) : Int)) w:=fun w => HIX.out 0 hpos w
  by_cases h1 : (L.getD 0 0).toNat = 48 ∧ L ≠ [48]
  ·have HN:=NO (HBAD.out (.inl (by
    obtain ⟨h1,h2⟩:=h1
    unfold zgd
    match L,h0 with
    | c :: t,_ =>
      have hc : c = 48:=by
       have h1 : c.toNat = 48:=h1
       rw [← UInt8.ofNat_toNat (x:=c),h1]; rfl
      rw [decide_eq_false h2,hc]
      rfl)))
   rw [decide_eq_false h1.2] at q2
   rw [h1.1] at ix0
   clear NO HBAD HGOOD HIX h0 h1
   go_enter Tryz.func59,Tryz.ntmps59
   go_wp2
   go_ret2
   exact HN.out _ hB
  ·have HHD : Hid (zgd L = true):=by
    show _ = _
    unfold zgd
    match L,h0 with
    | c :: t,_ =>
      by_cases hc : c = 48
      ·have h2 : c :: t = [48]:=by
        by_cases h2 : c :: t = [48]
        ·exact h2
        ·exact absurd ⟨by rw [hc]; rfl,h2⟩ h1
       rw [decide_eq_true h2]; simp
      ·simp [hc]
   by_cases h2 : L = [48]
   ·rw [decide_eq_true h2] at q2
    have h3 : (L.getD 0 0).toNat = 48:=by rw [h2]; rfl
    rw [h3] at ix0
    clear h2 h3 h0 h1
    go_enter Tryz.func59,Tryz.ntmps59
    go_wp2_with fail
    clear q1 q2 ix0
    go_loopg [4,5] (S + 1) (fun gg u ix wr => ∃ (k : Nat) (A2 : oA9) (n2 c2 : Nat),k ≤ S ∧ S < gg + k ∧ ix = .int .i64 k ∧ u = .slice A2 n2 c2 ∧ Hid ((L.take k).all zbm = true) ∧ zai wr (zaG (L.take k)) A2 n2 c2 ∧ Below w.heap.size w wr)
    case atStart => exact ⟨0,none,0,0,Nat.zero_le _,by omega,rfl,rfl,rfl,zbN _,hB⟩
    case round =>
     clear hB
     obtain ⟨k,A2,n2,c2,hk,hg,rfl,rfl,HAL,hh,hB⟩:=hrel
     have i1 : (0 : Int) ≤ (k : Int):=by omega
     by_cases hlt : k < S
     ·have i2 : (k : Int) < (S : Int):=by omega
      have hkl : k < L.length:=by rw [HLS.out]; exact hlt
      have ix:=HIX.out k hlt
      have HST:=lh9 (zhm L hkl)
      have HBK:=lh9 (fun h => zkO hkl h)
      have HAK:=lh9 (fun h => zig hkl HAL.out h)
      have hn2 : n2 ≤ 549755813888:=by
       rw [hh.len]
       have h1:=znr HAL.out
       rw [List.length_take] at h1
       omega
      have hdg : zbm (L.getD k 0) = (decide (48 ≤ (L.getD k 0).toNat) && decide ((L.getD k 0).toNat ≤ 57)):=rfl
      rw [hdg] at HBK HAK
      obtain ⟨c,hc⟩ : ∃ c,(L.getD k 0).toNat = c:=⟨_,rfl⟩
      rw [hc] at ix HST HBK HAK
      clear hc hdg
      by_cases h1 : 48 ≤ c
      ·by_cases h2 : c ≤ 57
       ·have HN:=lh9 (HAK.out (by simp [h1,h2]))
        obtain ⟨d,hd⟩ : ∃ d,c - 48 = d:=⟨_,rfl⟩
        rw [hd] at HST
        have j1 : decide ((c : Int) < 48) = false:=by simp; omega
        have j2 : decide ((57 : Int) < (c : Int)) = false:=by simp; omega
        have j3 : (c : Int) - 48 = (d : Int):=by omega
        have j4 : IntKind.u8.wrap (d : Int) = (d : Int):=by simp [IntKind.wrap,IntKind.bits,IntKind.signed]; omega
        have j5 : IntKind.i64.wrap (d : Int) = (d : Int):=IntWalk.i64_in _ (by omega)
        have SM:=lh9 (show Calls Tryz.prog 106 #[.slice A2 n2 c2,.int .i64 10,.int .i64 (d : Int)] wr (zbw wr (zaG (L.take k) * 10 + d)) from zdj (zaG (L.take k)) 10 d A2 n2 c2 wr hh hn2 (by decide) (by omega))
        rw [← HST.out] at SM
        clear hd HST hh HBK HAK HAL
        go_wp2_with fail
        refine SM.out.mono ?_
        intro e w3 hg3
        obtain ⟨A3,n3,c3,rfl,hh3,hb⟩:=hg3.elim
        have hB3:=zac hB hb
        clear hb hg3 hB
        go_wp2
        go_roundg (S - k)
        case measure => omega
        case rel => exact ⟨k + 1,A3,n3,c3,by omega,by omega,by go_num,rfl,HN,hh3,hB3⟩
       ·have HN:=NO (HBAD.out (.inr (HBK.out (by simp [h2]))))
        have j1 : decide ((c : Int) < 48) = false:=by simp; omega
        have j2 : decide ((57 : Int) < (c : Int)) = true:=by simp; omega
        clear HST hh HBK HAK HAL NO
        go_wp2
        go_ret2
        exact HN.out _ hB
      ·have HN:=NO (HBAD.out (.inr (HBK.out (by simp [h1]))))
       have j1 : decide ((c : Int) < 48) = true:=by simp; omega
       clear HST hh HBK HAK HAL NO
       go_wp2
       go_ret2
       exact HN.out _ hB
     ·have hkS : k = S:=by omega
      subst hkS
      rw [List.take_of_length_le (by rw [HLS.out]; exact Nat.le_refl _)] at hh HAL
      have HO:=lh9 (HGOOD.out HHD.out HAL.out)
      rw [← HV1.out HO.out] at hh
      have HO2 : Hid (∀ w',zfY w V true (.returned (.tuple #[.slice A2 n2 c2,.bool true])) w' → zfY w V ob (.returned (.tuple #[.slice A2 n2 c2,.bool true])) w'):=fun w' h => by rw [HO.out]; exact h
      clear NO HAL
      go_wp2
      go_ret2
      exact HO2.out _ ⟨A2,n2,c2,rfl,hh,hB⟩
   ·rw [decide_eq_false h2] at q2
    have h3 : (L.getD 0 0).toNat ≠ 48:=fun e => h1 ⟨e,h2⟩
    obtain ⟨cc,hcc⟩ : ∃ c,(L.getD 0 0).toNat = c:=⟨_,rfl⟩
    rw [hcc] at ix0 h3
    have q4 : ((cc : Int) != 48) = true:=by rw [bne_iff_ne]; omega
    have q5 : ((cc : Int) == 48) = false:=by rw [beq_eq_false_iff_ne]; omega
    clear h2 h0 h1 hcc
    go_enter Tryz.func59,Tryz.ntmps59
    go_wp2_with fail
    clear q1 q2 ix0 q4 q5 h3
    go_loopg [4,5] (S + 1) (fun gg u ix wr => ∃ (k : Nat) (A2 : oA9) (n2 c2 : Nat),k ≤ S ∧ S < gg + k ∧ ix = .int .i64 k ∧ u = .slice A2 n2 c2 ∧ Hid ((L.take k).all zbm = true) ∧ zai wr (zaG (L.take k)) A2 n2 c2 ∧ Below w.heap.size w wr)
    case atStart => exact ⟨0,none,0,0,Nat.zero_le _,by omega,rfl,rfl,rfl,zbN _,hB⟩
    case round =>
     clear hB
     obtain ⟨k,A2,n2,c2,hk,hg,rfl,rfl,HAL,hh,hB⟩:=hrel
     have i1 : (0 : Int) ≤ (k : Int):=by omega
     by_cases hlt : k < S
     ·have i2 : (k : Int) < (S : Int):=by omega
      have hkl : k < L.length:=by rw [HLS.out]; exact hlt
      have ix:=HIX.out k hlt
      have HST:=lh9 (zhm L hkl)
      have HBK:=lh9 (fun h => zkO hkl h)
      have HAK:=lh9 (fun h => zig hkl HAL.out h)
      have hn2 : n2 ≤ 549755813888:=by
       rw [hh.len]
       have h1:=znr HAL.out
       rw [List.length_take] at h1
       omega
      have hdg : zbm (L.getD k 0) = (decide (48 ≤ (L.getD k 0).toNat) && decide ((L.getD k 0).toNat ≤ 57)):=rfl
      rw [hdg] at HBK HAK
      obtain ⟨c,hc⟩ : ∃ c,(L.getD k 0).toNat = c:=⟨_,rfl⟩
      rw [hc] at ix HST HBK HAK
      clear hc hdg
      by_cases h1 : 48 ≤ c
      ·by_cases h2 : c ≤ 57
       ·have HN:=lh9 (HAK.out (by simp [h1,h2]))
        obtain ⟨d,hd⟩ : ∃ d,c - 48 = d:=⟨_,rfl⟩
        rw [hd] at HST
        have j1 : decide ((c : Int) < 48) = false:=by simp; omega
        have j2 : decide ((57 : Int) < (c : Int)) = false:=by simp; omega
        have j3 : (c : Int) - 48 = (d : Int):=by omega
        have j4 : IntKind.u8.wrap (d : Int) = (d : Int):=by simp [IntKind.wrap,IntKind.bits,IntKind.signed]; omega
        have j5 : IntKind.i64.wrap (d : Int) = (d : Int):=IntWalk.i64_in _ (by omega)
        have SM:=lh9 (show Calls Tryz.prog 106 #[.slice A2 n2 c2,.int .i64 10,.int .i64 (d : Int)] wr (zbw wr (zaG (L.take k) * 10 + d)) from zdj (zaG (L.take k)) 10 d A2 n2 c2 wr hh hn2 (by decide) (by omega))
        rw [← HST.out] at SM
        clear hd HST hh HBK HAK HAL
        go_wp2_with fail
        refine SM.out.mono ?_
        intro e w3 hg3
        obtain ⟨A3,n3,c3,rfl,hh3,hb⟩:=hg3.elim
        have hB3:=zac hB hb
        clear hb hg3 hB
        go_wp2
        go_roundg (S - k)
        case measure => omega
        case rel => exact ⟨k + 1,A3,n3,c3,by omega,by omega,by go_num,rfl,HN,hh3,hB3⟩
       ·have HN:=NO (HBAD.out (.inr (HBK.out (by simp [h2]))))
        have j1 : decide ((c : Int) < 48) = false:=by simp; omega
        have j2 : decide ((57 : Int) < (c : Int)) = true:=by simp; omega
        clear HST hh HBK HAK HAL NO
        go_wp2
        go_ret2
        exact HN.out _ hB
      ·have HN:=NO (HBAD.out (.inr (HBK.out (by simp [h1]))))
       have j1 : decide ((c : Int) < 48) = true:=by simp; omega
       clear HST hh HBK HAK HAL NO
       go_wp2
       go_ret2
       exact HN.out _ hB
     ·have hkS : k = S:=by omega
      subst hkS
      rw [List.take_of_length_le (by rw [HLS.out]; exact Nat.le_refl _)] at hh HAL
      have HO:=lh9 (HGOOD.out HHD.out HAL.out)
      rw [← HV1.out HO.out] at hh
      have HO2 : Hid (∀ w',zfY w V true (.returned (.tuple #[.slice A2 n2 c2,.bool true])) w' → zfY w V ob (.returned (.tuple #[.slice A2 n2 c2,.bool true])) w'):=fun w' h => by rw [HO.out]; exact h
      clear NO HAL
      go_wp2
      go_ret2
      exact HO2.out _ ⟨A2,n2,c2,rfl,hh,hB⟩
end Go.Proofs.YtfieheffipfahaaGreatDoor
