/- What this claim leans on. -/
import Derived.Test.YtfieheffipfahaaGreatDoorTBunR
import Derived.Test.YtfieheffipfahaaGreatDoorTBun6b
namespace Go.Proofs.YtfieheffipfahaaGreatDoor
open Go Go.RowKit
set_option maxHeartbeats 16000000
set_option maxRecDepth 100000
set_option linter.unusedVariables false
theorem ziX (x mm : Nat) (A : oA9) (n c : Nat) (w : World) (hA : zaj w x A n c) (hn : n ≤ 274877906944) (hm0 : 0 < mm) (hm1 : mm ≤ 32768) :
  Calls Tryz.prog 125 #[.slice A n c,.int .i64 mm] w (zgc w x mm) := by
 obtain ⟨i0,hi0,hz0,hz1,hz2⟩ := info_parts zgD
 have HLN := lh9 hA.len
 have hR := hA.1
 clear hA
 obtain ⟨Z,hZ⟩ : ∃ Z,madeCells (Value.cells (.int .i64 0)) (n * i0.size) = Z := ⟨_,rfl⟩
 have HZ : Hid (Z.size = n) := by show _ = _; rw [← hZ,size_madeCells,hz1,Nat.mul_one]
 have hmk : ∀ W : World,(Instr.makeSlice 35 (.int .i64 (n : Int)) (.int .i64 (n : Int))).run Tryz.prog W = .ok (.slice (some ⟨W.heap.size,0,none⟩) n n) (W.alloc (.cells Z 3)) := fun W => by
  rw [← hZ]; exact zaW _ _ i0 _ Tryz.underlying35 hi0 hz0 _ _ n n (Nat.le_refl _) (by rw [hz2]; omega) (by omega) W
 clear hZ
 go_enter Tryz.func125,Tryz.ntmps125
 go_wp2
 clear hmk
 go_loopg [7,8,9] (n + 1) (fun g s i _ wr => ∃ (k left : Nat) (cs : Array Value) (out : List Nat),k ≤ n ∧ k < g ∧ i = .int .i64 ((k : Int) - 1) ∧ s = .int .i64 left ∧ zdQ x mm n k out left ∧
   Blk wr w.heap.size 3 cs ∧ cs.size = n ∧ cs.toList.drop k = zam .i64 out ∧ Below w.heap.size w wr)
 case atStart => exact ⟨n,0,Z,[],Nat.le_refl _,by omega,rfl,rfl,zdQ.start hm0 (by have := HLN.out; omega),Blk.new w _ _,HZ.out,by rw [List.drop_of_length_le (by have := HZ.out; simp; omega)]; rfl,(Below.refl _ _).alloc (Nat.le_refl _) _⟩
 case round =>
  obtain ⟨k,left,cs,out,hk,hg,rfl,rfl,hat,hB,hsz,hdr,hbl⟩ := hrel
  by_cases hk0 : k = 0
  ·subst hk0
   obtain ⟨f1,f2⟩ := hat.done
   have hlen : out.length = n := by have := hat.len; omega
   have hrd : zan wr wr.heap.size 1 (some ⟨w.heap.size,0,none⟩) n (zam .i64 out) := by
    refine ⟨by rw [zat]; omega,fun _ => ⟨_,rfl,hB.lt,fun j u hu => ?_⟩⟩
    have e : (⟨w.heap.size,0,none⟩ : Addr).add j = ⟨w.heap.size,j,none⟩ := by unfold Addr.add; split <;> simp_all
    rw [e,hB.cell j,← Array.getElem?_toList]
    rw [List.drop_zero] at hdr
    rw [hdr]; exact hu
   have T := zgl (some ⟨w.heap.size,0,none⟩) n n out wr hrd hat.dgs (Nat.le_refl _) (by omega) (by omega)
   rw [f1] at T
   have HT := lh9 T
   have F2 := lh9 f2
   clear T hrd f1 f2 hat hdr hsz hlen
   go_wp2_with fail
   refine HT.out.mono ?_
   intro e w2 hg2
   have hg3 := hg2.from_ hbl
   obtain ⟨A2,n2,c2,rfl,hh2,hb2⟩ := hg2.elim
   have HG3 := lh9 hg3
   clear hg2 hh2 hb2 hg3
   go_wp2_with fail
   go_ret2
   exact ⟨_,by rw [← F2.out]; rfl,HG3.out⟩
  ·obtain ⟨j,rfl⟩ : ∃ j,k = j + 1 := ⟨k - 1,by omega⟩
   obtain ⟨ad,rfl,hadb,hc0⟩ := zaP hR (k := j) (by omega)
   have hc1 : wr.cell? (ad.add j) = some (.int .i64 ((dg 65536 x).getD j 0 : Nat)) := (hbl.cell (by rw [zaz]; exact hadb)).trans hc0
   rw [zfG] at hc1
   have ha1 : x / 65536 ^ j % 65536 < 65536 := Nat.mod_lt _ (by decide)
   have hst := hat.step hk rfl
   have hleft := hat.rest
   obtain ⟨a,ha⟩ : ∃ b,x / 65536 ^ j % 65536 = b := ⟨_,rfl⟩
   rw [ha] at hc1 ha1 hst
   have hfr := hB.frozen j
   have hcell : ∃ u,wr.cell? ⟨w.heap.size,j,none⟩ = some u := by
    rw [hB.cell j]
    exact ⟨cs[j]'(by omega),Array.getElem?_eq_getElem (by omega)⟩
   obtain ⟨u,hu⟩ := hcell
   have HST := lh9 hst
   have HS := lh9 hsz
   have HD := lh9 hdr
   clear hst ha hat hc0 hsz hdr
   go_wp2
   go_roundg (j + 1)
   case measure => omega
   case rel => exact ⟨j,(left * 65536 + a) % mm,cs.setIfInBounds j (.int .i64 (((left : Int) * 65536 + (a : Int)) / (mm : Int))),_,by omega,by omega,by go_num,by go_num,HST.out,hB.set_ _ _,by simpa using HS.out,by rw [drop_set _ _ _ (by have := HS.out; omega),HD.out]; simp [zam],hbl.setCell (Nat.le_refl _) _⟩
set_option linter.unusedSimpArgs false
theorem infoB6 : (Tryz.prog.info? 5).map (fun i => (i.zero,i.size,i.bytes)) = some (some (.int .u8 0),1,1) := by kernel_rfl
def zfa (b x y : Nat) (D : List Nat) : Prop := D ++ dg b y = dg b x
theorem zfa.step {b x y : Nat} {D : List Nat} (h : zfa b x y D) (hb : 2 ≤ b) (hy : y ≠ 0) : zfa b x (y / b) (D ++ [y % b]) := by
 unfold zfa at h ⊢
 rw [← h,zds hb hy,List.append_assoc]
 rfl
theorem zkJ {w w' : World} {x : Nat} {B : oA9} {m d : Nat} (h : zaj w x B m d) {row : Option Nat} (hg : w.grownBy w' row) (hr : 0 < m → ∀ ad,B = some ad → some ad.block ≠ row) : zaj w' x B m d := by
 obtain ⟨hr0,h1,h2⟩ := h
 refine ⟨⟨hr0.1,fun hn => ?_⟩,h1,h2⟩
 obtain ⟨ad,e,hb,hc⟩ := hr0.2 hn
 refine ⟨ad,e,Nat.lt_of_lt_of_le hb hg.size,fun j u hu => ?_⟩
 exact (World.cell?_of_block (hg.block _ (by rw [zaz]; exact hb) (by rw [zaz]; exact hr hn ad e))).trans (hc j u hu)
theorem zcc.holds {w w' : World} {v v' : Value} {x m d : Nat} {B : oA9} (h : zcc v B m) (hx : zaj w x B m d) (hg : zbx w v w' v') : zaj w' x B m d ∧ zcc v' B m := by
 refine ⟨zkJ hx hg.grown (fun hm ad e => (h hm ad e).symm),fun hm ad e => ?_⟩
 rcases hg.at_ with h1 | h1
 ·rw [h1]; exact h hm ad e
 ·intro h2
  have := h1 _ h2
  obtain ⟨ad',e',hb,_⟩ := hx.1.2 hm
  rw [e] at e'
  injection e' with e'
  subst e'
  omega
def zji (w : World) (l : List Nat) (e : Ending) (w' : World) : Prop := ∃ v,e = .returned v ∧ w'.ownsRow w.heap.size 3 1 v l.length (zam .i64 l) ∧ Below w.heap.size w w'
theorem ziY (x b : Nat) (A : oA9) (n c : Nat) (w : World) (hA : zaj w x A n c) (hn : n ≤ 1048576) (hb2 : 2 ≤ b) (hb : b ≤ 256) :
  Calls Tryz.prog 94 #[.slice A n c,.int .i64 b] w (zji w (dg b x)) := by
 obtain ⟨i0,hi0,hz0,hz1,hz2⟩ := info_parts zgD
 have HSM : Hid (∀ y D,zfa b x y D → (dg 65536 y).length ≤ n ∧ D.length ≤ 16 * n) := fun y D h => by
  have h1 : (dg b x).length ≤ 16 * n := by
   refine zaF hb2 _ _ (Nat.lt_of_lt_of_le (zaD (b := 65536) (by decide) x) ?_)
   rw [← hA.len,show (65536 : Nat) = 2 ^ 16 from rfl,← Nat.pow_mul]
   exact Nat.pow_le_pow_left hb2 _
  have h2 : D.length ≤ (dg b x).length := by rw [← h]; simp
  have h3 : y ≤ x := by
   have e := congrArg (dv b) h
   rw [zaN,zbO hb2,zbO hb2] at e
   have := Nat.mul_le_mul_right y (Nat.pow_pos (n := D.length) (show 0 < b by omega))
   omega
  exact ⟨by rw [hA.len]; exact zaL (by decide) h3,by omega⟩
 have HST : Hid (∀ y D,zfa b x y D → y ≠ 0 → zfa b x (y / b) (D ++ [y % b])) := fun y D h hy => h.step hb2 hy
 have HT0 : Hid (zfa b x x []) := rfl
 go_enter Tryz.func94,Tryz.ntmps94
 go_wp2_with fail
 go_loopg [0,5] (x + 1) (fun gg s t wr => ∃ (tv : Value) (y : Nat) (D : List Nat) (B : oA9) (m d : Nat),tv = t ∧ s = .slice B m d ∧ y < gg ∧ Hid (zfa b x y D) ∧ wr.ownsRow w.heap.size 3 1 tv D.length (zam .i64 D) ∧ zaj wr y B m d ∧ zcc tv B m ∧ Below w.heap.size w wr)
 case atStart => exact ⟨_,x,[],A,n,c,rfl,rfl,by omega,HT0,World.ownsRow_nil _ _ _ _,hA,zcc.none_ _ _,Below.refl _ _⟩
 case round =>
  clear hA HT0
  obtain ⟨tv,y,D,B,m,d,rfl,rfl,hyg,HTB,hown,hh,has,hB⟩ := hrel
  obtain ⟨hm1,hD1⟩ := HSM.out y D HTB.out
  rw [← hh.len] at hm1
  by_cases hy : y = 0
  ·subst hy
   have hm0 : m = 0 := by rw [hh.len,zbV]; rfl
   subst hm0
   have HE : Hid (D = dg b x) := by have := HTB.out; unfold zfa at this; rw [zbV,List.append_nil] at this; exact this
   have HG : Hid (zji w (dg b x) (.returned tv) wr) := by
    show zji _ _ _ _
    rw [← HE.out]
    exact ⟨tv,rfl,hown,hB⟩
   clear HE hown hh has hB HTB
   go_wp2
   go_ret
   exact HG.out
  ·have hm0 : (0 : Int) < (m : Int) := by
    have h1 := (zfb (b := 65536) (by decide) y hy).1
    rw [← hh.len] at h1
    omega
   have HS2 := lh9 (HST.out y D HTB.out hy)
   have HLT : Hid (y / b < y) := Nat.div_lt_self (Nat.pos_of_ne_zero hy) (by omega)
   have HHF := lh9 (ziX y b B m d wr hh (by omega) (by omega) (by omega))
   have hrb : y % b < 256 := Nat.lt_of_lt_of_le (Nat.mod_lt _ (by omega)) hb
   unfold zgc at HHF
   obtain ⟨p,hp⟩ : ∃ p,y % b = p := ⟨_,rfl⟩
   obtain ⟨q,hq⟩ : ∃ p,y / b = p := ⟨_,rfl⟩
   rw [hp] at HS2 hrb HHF
   rw [hq] at HS2 HLT HHF
   clear hp hq hh has HTB hy
   go_wp2_with fail
   refine HHF.out.mono ?_
   rintro e w1 ⟨v1,rfl,hg1⟩
   obtain ⟨B1,c1,ev,hr1,hfit,⟨hc1,hfr⟩,hb1⟩ := hg1
   cases ev
   have hh1 : zaj w1 q B1 (dg 65536 q).length c1 := ⟨hr1,hfit,hc1⟩
   obtain ⟨m1,hm1e⟩ : ∃ m,(dg 65536 q).length = m := ⟨_,rfl⟩
   rw [hm1e] at hh1 ⊢
   have has1 : zcc tv B1 m1 := zcc.fresh hfr hown
   have hown1 := zdd hown hb1
   have hB1 := zac hB hb1
   have hsz := hB1.size
   clear hr1 hfit hfr hm1e hown hB HHF hb1
   go_wp2_with (at_builtin; refine zaM _ rfl (.tmp 17) (.tmp 19) 35 rfl w.heap.size 3 i0 (.int .i64 0) 1 8 Tryz.underlying35 hi0 hz0 hz1 hz2 rfl (by decide) tv D.length (zam .i64 D) rfl (hown1.alloc _) (w1.heap.size + 1) (some ⟨w1.heap.size,0,none⟩) 1 1 [.int .i64 (p : Int)] rfl ⟨rfl,fun _ => ⟨_,rfl,by simp,zba _ _ _⟩⟩ (zbS _ _) (by unfold maxLen; omega) (by omega) (by simp; omega) ?_; intro v' w2 hown' hgrow hat)
   have hG2 : zbx w1 tv w2 v' := (zbx.alloc w1 tv _).trans ⟨hgrow,hat.imp id fun h g hg => by rw [h] at hg; cases hg; exact Nat.le_refl _⟩
   obtain ⟨hh2,has2⟩ := has1.holds hh1 hG2
   have hB2 := hG2.belowOf hown1 hB1 (Nat.le_refl _)
   have hown2 : w2.ownsRow w.heap.size 3 1 v' (D ++ [p]).length (zam .i64 (D ++ [p])) := by
    rw [zaC,List.length_append]; exact hown'
   clear hown' hgrow hat hG2 has1 hh1 hown1 hB1
   go_wp2
   go_roundg y
   case measure => omega
   case rel => exact ⟨v',q,_,B1,m1,c1,rfl,rfl,HLT.out,HS2,hown2,hh2,has2,hB2⟩
theorem zmH (x : Nat) (A : oA9) (n c : Nat) (w : World) (hA : zaj w x A n c) (hn : n ≤ 1048576) :
  Calls Tryz.prog 89 #[.slice A n c] w (zcA w (zbi x)) := by
 obtain ⟨i0,hi0,hz0,hz1,hz2⟩ := info_parts infoB6
 have HBK := lh9 (ziY x 256 A n c w hA hn (by decide) (by decide))
 have hsm : (dg 256 x).length ≤ 16 * n := by
  refine zaF (by decide) _ _ (Nat.lt_of_lt_of_le (zaD (b := 65536) (by decide) x) ?_)
  rw [← hA.len,show (65536 : Nat) = 2 ^ 16 from rfl,← Nat.pow_mul]
  exact Nat.pow_le_pow_left (by decide) _
 have HDD := lh9 (zbp (b := 256) (by decide) x)
 have HBL : Hid (zbi x = (dg 256 x).reverse) := rfl
 obtain ⟨D,hD⟩ : ∃ d,dg 256 x = d := ⟨_,rfl⟩
 rw [hD] at HBK hsm HDD HBL
 obtain ⟨N,hN⟩ : ∃ N,D.length = N := ⟨_,rfl⟩
 rw [hN] at hsm
 have HNL := lh9 hN
 clear hA hD hN
 go_enter Tryz.func89,Tryz.ntmps89
 go_wp2_with fail
 refine HBK.out.mono ?_
 rintro e w1 ⟨v1,rfl,hown1,hb1⟩
 obtain ⟨A1,c1,rfl,hc1,hc2,hr1⟩ := zan.of_grown_own hown1
 have HR := lh9 (fun (k : Nat) (hk : k < N) w' (h : Below w1.heap.size w1 w') => zaP (hr1.below h) (by rw [HNL.out]; exact hk))
 have HNI : Hid ((D.length : Int) = (N : Int)) := by show _ = _; rw [HNL.out]
 have hsz := hb1.size
 rw [HNL.out]
 clear hown1 hr1 hc1 hc2 HBK
 go_wp2_with fail
 go_loopg [4,5] (N + 1) (fun gg t i wr => ∃ (tv : Value) (k : Nat),tv = t ∧ i = .int .i64 ((k : Int) - 1) ∧ k ≤ N ∧ k < gg ∧ wr.ownsRow w1.heap.size 5 1 tv (N - k) (zam .u8 (D.drop k).reverse) ∧ Below w1.heap.size w1 wr)
 case atStart => exact ⟨_,N,rfl,rfl,Nat.le_refl _,by omega,by rw [Nat.sub_self,List.drop_of_length_le (by rw [HNL.out]; exact Nat.le_refl _)]; exact World.ownsRow_nil _ _ _ _,Below.refl _ _⟩
 case round =>
  obtain ⟨tv,k,rfl,rfl,hk,hg,hown,hB⟩ := hrel
  by_cases hk0 : k = 0
  ·subst hk0
   have hBB := hb1.trans (hB.mono hsz)
   have HG : Hid (zcA w (zbi x) (.returned tv) wr) := by
    show zcA _ _ _ _
    rw [HBL.out]
    refine ⟨tv,rfl,?_,hBB⟩
    rw [List.length_reverse,HNL.out]
    refine ⟨hown.1,?_⟩
    rcases hown.2 with h1 | ⟨g,cap,cur,e1,e2,e3⟩
    ·exact .inl h1
    ·exact .inr ⟨g,cap,cur,e1,by omega,e3⟩
   clear hown hB hBB HBL
   go_wp2
   go_ret
   exact HG.out
  ·obtain ⟨j,rfl⟩ : ∃ j,k = j + 1 := ⟨k - 1,by omega⟩
   obtain ⟨ad,rfl,hadb,hc⟩ := HR.out j (by omega) wr hB
   have hdl := HDD.out.getD (by decide) j
   have hst : (D.drop j).reverse = (D.drop (j + 1)).reverse ++ [D.getD j 0] := by
    have hj : j < D.length := by rw [HNL.out]; omega
    rw [List.drop_eq_getElem_cons hj,List.reverse_cons,List.getD_eq_getElem?_getD,List.getElem?_eq_getElem hj]
    rfl
   obtain ⟨d,hd⟩ : ∃ d,D.getD j 0 = d := ⟨_,rfl⟩
   rw [hd] at hc hdl hst
   have HST := lh9 hst
   have j1 : IntKind.u8.wrap (d : Int) = (d : Int) := by simp [IntKind.wrap,IntKind.bits,IntKind.signed]; omega
   have i1 : (0 : Int) ≤ (j : Int) := by omega
   have i2 : (j : Int) < (N : Int) := by omega
   have hbz := hB.size
   have hNj : N - (j + 1) + 1 = N - j := by omega
   have HNJ := lh9 hNj
   clear hd hst hNj
   go_wp2_with (at_builtin; refine zaM _ rfl (.tmp 15) (.tmp 21) 42 rfl w1.heap.size 5 i0 (.int .u8 0) 1 1 Tryz.underlying42 hi0 hz0 hz1 hz2 rfl (by decide) tv (N - (j + 1)) (zam .u8 (D.drop (j + 1)).reverse) rfl (hown.alloc _) (wr.heap.size + 1) (some ⟨wr.heap.size,0,none⟩) 1 1 [.int .u8 (d : Int)] rfl ⟨rfl,fun _ => ⟨_,rfl,by simp,zba _ _ _⟩⟩ (zbS _ _) (by unfold maxLen; omega) (by omega) (by simp; omega) ?_; intro v' w2 hown' hgrow hat)
   have hG2 : zbx wr tv w2 v' := (zbx.alloc wr tv _).trans ⟨hgrow,hat.imp id fun h g hg => by rw [h] at hg; cases hg; exact Nat.le_refl _⟩
   have hB2 := hG2.belowOf hown hB (Nat.le_refl _)
   have hown2 : w2.ownsRow w1.heap.size 5 1 v' (N - j) (zam .u8 (D.drop j).reverse) := by
    rw [HST.out,zaC,← HNJ.out]; exact hown'
   clear hown' hgrow hat hG2 hown hB HST
   go_wp2
   go_roundg (j + 1)
   case measure => omega
   case rel => exact ⟨v',j,rfl,by go_num,by omega,by omega,hown2,hB2⟩
theorem ziZ (x : Nat) (A : oA9) (n c : Nat) (w : World) (hA : zaj w x A n c) (hn : n ≤ 1048576) :
  Calls Tryz.prog 49 #[.slice A n c] w fun e w' => e = .returned (.string (zas (zbr x))) ∧ Below w.heap.size w w' := by
 obtain ⟨i0,hi0,hz0,hz1,hz2⟩ := info_parts infoB6
 have HBK := lh9 (ziY x 10 A n c w hA hn (by decide) (by decide))
 have hsm : (dg 10 x).length ≤ 16 * n := by
  refine zaF (by decide) _ _ (Nat.lt_of_lt_of_le (zaD (b := 65536) (by decide) x) ?_)
  rw [← hA.len,show (65536 : Nat) = 2 ^ 16 from rfl,← Nat.pow_mul]
  exact Nat.pow_le_pow_left (by decide) _
 have HDD := lh9 (zbp (b := 10) (by decide) x)
 have HTZ : Hid (x = 0 → zas (zbr x) = ⟨#[48]⟩) := fun h => by rw [h]; rfl
 have HTP : Hid (x ≠ 0 → strL (chN (dg 10 x)).reverse = zas (zbr x)) := fun h => znu h
 have HX0 : Hid (dg 10 x = [] → x = 0) := fun h => by have := zbO (b := 10) (by decide) x; rw [h] at this; exact this.symm
 have HXN : Hid (dg 10 x ≠ [] → x ≠ 0) := fun h e => h (by rw [e]; rfl)
 obtain ⟨D,hD⟩ : ∃ d,dg 10 x = d := ⟨_,rfl⟩
 rw [hD] at HBK hsm HDD HTP HX0 HXN
 obtain ⟨N,hN⟩ : ∃ N,D.length = N := ⟨_,rfl⟩
 rw [hN] at hsm
 have HNL := lh9 hN
 clear hA hD hN
 go_enter Tryz.func49,Tryz.ntmps49
 go_wp2_with fail
 refine HBK.out.mono ?_
 rintro e w1 ⟨v1,rfl,hown1,hb1⟩
 obtain ⟨A1,c1,rfl,hc1,hc2,hr1⟩ := zan.of_grown_own hown1
 have HR := lh9 (fun (k : Nat) (hk : k < N) w' (h : Below w1.heap.size w1 w') => zaP (hr1.below h) (by rw [HNL.out]; exact hk))
 have HNI : Hid ((D.length : Int) = (N : Int)) := by show _ = _; rw [HNL.out]
 have hsz := hb1.size
 rw [HNL.out]
 clear hown1 hr1 hc1 hc2 HBK
 go_wp2_with fail
 go_loopg [4,5] (N + 1) (fun gg t i wr => ∃ (tv : Value) (k : Nat),tv = t ∧ i = .int .i64 ((k : Int) - 1) ∧ k ≤ N ∧ k < gg ∧ wr.ownsRow w1.heap.size 5 1 tv (N - k) (zam .u8 (chN (D.drop k)).reverse) ∧ Below w1.heap.size w1 wr)
 case atStart => exact ⟨_,N,rfl,rfl,Nat.le_refl _,by omega,by rw [Nat.sub_self,List.drop_of_length_le (by rw [HNL.out]; exact Nat.le_refl _)]; exact World.ownsRow_nil _ _ _ _,Below.refl _ _⟩
 case round =>
  obtain ⟨tv,k,rfl,rfl,hk,hg,hown,hB⟩ := hrel
  by_cases hk0 : k = 0
  ·subst hk0
   have hBB := hb1.trans (hB.mono hsz)
   rw [List.drop_zero,Nat.sub_zero] at hown
   rcases Nat.eq_zero_or_pos N with h0 | h0
   ·subst h0
    have hx := HX0.out (List.eq_nil_of_length_eq_zero HNL.out)
    have HQ := lh9 (HTZ.out hx)
    obtain ⟨A2,c2,rfl,_,_,_⟩ := zan.of_grown_own hown
    clear hown hB hx
    go_wp2
    go_ret
    exact ⟨by rw [HQ.out]; rfl,hBB⟩
   ·have hx := HXN.out (fun h => by have := HNL.out; rw [h] at this; simp at this; omega)
    obtain ⟨A2,c2,rfl,_,_,hr2⟩ := zan.of_grown_own hown
    have hst := zcw (P := Tryz.prog) 42 9 5 Tryz.underlying42 Tryz.underlying5 Tryz.underlying9 (c := c2) hr2
    rw [HTP.out hx] at hst
    obtain ⟨Q,hQ⟩ : ∃ q,zas (zbr x) = q := ⟨_,rfl⟩
    rw [hQ] at hst
    have HQ := lh9 hQ
    have h1 : ((N : Int) == 0) = false := by rw [beq_eq_false_iff_ne]; omega
    clear hown hB hx hr2 hQ
    go_wp2
    go_ret
    exact ⟨by rw [HQ.out]; rfl,hBB⟩
  ·obtain ⟨j,rfl⟩ : ∃ j,k = j + 1 := ⟨k - 1,by omega⟩
   obtain ⟨ad,rfl,hadb,hc⟩ := HR.out j (by omega) wr hB
   have hdl := HDD.out.getD (by decide) j
   have hst : (chN (D.drop j)).reverse = (chN (D.drop (j + 1))).reverse ++ [48 + D.getD j 0] := by
    have hj : j < D.length := by rw [HNL.out]; omega
    unfold chN
    rw [List.drop_eq_getElem_cons hj,List.map_cons,List.reverse_cons,List.getD_eq_getElem?_getD,List.getElem?_eq_getElem hj]
    rfl
   obtain ⟨d,hd⟩ : ∃ d,D.getD j 0 = d := ⟨_,rfl⟩
   rw [hd] at hc hdl hst
   have HST := lh9 hst
   have j1 : IntKind.u8.wrap (48 + (d : Int)) = ((48 + d : Nat) : Int) := by simp [IntKind.wrap,IntKind.bits,IntKind.signed]; omega
   have i1 : (0 : Int) ≤ (j : Int) := by omega
   have i2 : (j : Int) < (N : Int) := by omega
   have hbz := hB.size
   have hNj : N - (j + 1) + 1 = N - j := by omega
   have HNJ := lh9 hNj
   clear hd hst hNj
   go_wp2_with (at_builtin; refine zaM _ rfl (.tmp 15) (.tmp 22) 42 rfl w1.heap.size 5 i0 (.int .u8 0) 1 1 Tryz.underlying42 hi0 hz0 hz1 hz2 rfl (by decide) tv (N - (j + 1)) (zam .u8 (chN (D.drop (j + 1))).reverse) rfl (hown.alloc _) (wr.heap.size + 1) (some ⟨wr.heap.size,0,none⟩) 1 1 [.int .u8 ((48 + d : Nat) : Int)] rfl ⟨rfl,fun _ => ⟨_,rfl,by simp,zba _ _ _⟩⟩ (zbS _ _) (by unfold maxLen; omega) (by omega) (by simp; omega) ?_; intro v' w2 hown' hgrow hat)
   have hG2 : zbx wr tv w2 v' := (zbx.alloc wr tv _).trans ⟨hgrow,hat.imp id fun h g hg => by rw [h] at hg; cases hg; exact Nat.le_refl _⟩
   have hB2 := hG2.belowOf hown hB (Nat.le_refl _)
   have hown2 : w2.ownsRow w1.heap.size 5 1 v' (N - j) (zam .u8 (chN (D.drop j)).reverse) := by
    rw [HST.out,zaC,← HNJ.out]; exact hown'
   clear hown' hgrow hat hG2 hown hB HST
   go_wp2
   go_roundg (j + 1)
   case measure => omega
   case rel => exact ⟨v',j,rfl,by go_num,by omega,by omega,hown2,hB2⟩
end Go.Proofs.YtfieheffipfahaaGreatDoor
