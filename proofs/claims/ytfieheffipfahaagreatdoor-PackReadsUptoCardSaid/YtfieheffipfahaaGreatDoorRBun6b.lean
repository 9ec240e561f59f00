/- What this claim leans on. -/
import Derived.Test.YtfieheffipfahaaGreatDoorRBunY
namespace Go.Proofs.YtfieheffipfahaaGreatDoor
open Go Go.RowKit
set_option maxHeartbeats 16000000
set_option maxRecDepth 100000
set_option linter.unusedVariables false
set_option linter.unusedSimpArgs false
def zcF (v : Value) (B : oA9) (m : Nat) : Prop:=0 < m → ∀ ad,B = some ad → v.ownBlock ≠ some ad.block
theorem zcF.words {w w' : World} {v v' : Value} {x m d : Nat} {B : oA9} (h : zcF v B m) (hx : zaf w x B m d) (hg : zck w v w' v') : zaf w' x B m d ∧ zcF v' B m:=by
 refine ⟨znv hx hg.grown (fun hm ad e => (h hm ad e).symm),fun hm ad e => ?_⟩
 rcases hg.at_ with h1 | h1
 ·rw [h1]; exact h hm ad e
 ·intro h2
  have:=h1 _ h2
  obtain ⟨ad',e',hb,_⟩:=hx.1.2 hm
  rw [e] at e'
  injection e' with e'
  subst e'
  omega
theorem zcF.none_ (B : oA9) (m : Nat) : zcF (.slice none 0 0) B m:=fun _ _ _ h => by simp [Value.ownBlock] at h
theorem zcF.fresh {w : World} {base : Nat} {v : Value} {B : oA9} {m n : Nat} {e : TypeId} {vs : List Value} (hf : zdX w B) (hv : w.ownsRow base e 1 v n vs) : zcF v B m:=fun _ ad ea hh => by
 have h1:=hf ad ea
 have:=(hv.lt _ hh).2
 omega
theorem zck.blk {w w' : World} {v v' : Value} {base g n : Nat} {t e : TypeId} {cs : Array Value} {vs : List Value} (h : zck w v w' v') (hv : w.ownsRow base e 1 v n vs) (hk : Blk w g t cs) (hg : g < base) : Blk w' g t cs :=
 hk.grown h.grown (fun e => by have:=(hv.lt g e.symm).1; omega)
theorem zck.belowOf {w0 w w' : World} {v v' : Value} {base n : Nat} {e : TypeId} {vs : List Value} (h : zck w v w' v') (hv : w.ownsRow base e 1 v n vs) (hb : Below w0.heap.size w0 w) (hw : w0.heap.size ≤ base) : Below w0.heap.size w0 w' :=
 hb.grown h.grown hb.size (fun g e => by have:=(hv.lt g e).1; omega)
def zfb (x y : Nat) (D : List Nat) : Prop:=Dgs 10 D ∧ dv 10 D + 10 ^ D.length * y = x
theorem zfb.start (x : Nat) : zfb x x []:=⟨fun d hd => by simp at hd,by simp [dv]⟩
theorem zfb.step {x y : Nat} {D : List Nat} (h : zfb x y D) : zfb x (y / 10000000000000000000) (D ++ zfP 19 (y % 10000000000000000000)):=by
 refine ⟨h.1.append (lowD_dgs _ _),?_⟩
 rw [zbl,List.length_append,zgD,zoM,Nat.pow_add,show (10 : Nat) ^ 19 = 10000000000000000000 from rfl,Nat.mod_mod,Nat.mul_assoc,Nat.add_assoc,← Nat.mul_add,Nat.mod_add_div]
 exact h.2
theorem zfb.done {x : Nat} {D : List Nat} (h : zfb x 0 D) : dv 10 D = x:=by have:=h.2; simpa using this
theorem zfb.len {x y : Nat} {D : List Nat} (h : zfb x y D) (hy : y ≠ 0) : 10 ^ D.length ≤ x:=by
 have:=h.2
 have h1 : 10 ^ D.length * 1 ≤ 10 ^ D.length * y:=Nat.mul_le_mul_left _ (by omega)
 omega
theorem zpb {x : Nat} (hx : x ≠ 0) : strL (chN (dg 10 x)).reverse = zau (zbf x):=by
 unfold strL zau zbf tdg chB chN
 rw [if_neg hx]
 congr 2
 rw [← List.map_reverse,List.map_map]
 rfl
theorem own_set {w : World} {base n : Nat} {e : TypeId} {v : Value} {vs : List Value} (h : w.ownsRow base e 1 v n vs) {p : Addr} (hp : p.block < base) (u : Value) : (w.setCell p u).ownsRow base e 1 v n vs:=by
 refine ⟨h.1,?_⟩
 rcases h.2 with h1 | ⟨g,cap,cur,e1,e2,e3,e4⟩
 ·exact .inl h1
 ·exact .inr ⟨g,cap,cur,e1,e2,Blk.far (t:=e) (cs:=cur) e3 (by omega) u,e4⟩
theorem zbA.cut {w : World} {t : TypeId} {g cap n m : Nat} {L : List Nat} (h : zbA w t g cap n L) (hm : m ≤ n) : zbA w t g cap m (L.take m):=by
 obtain ⟨cur,h0,h1,h2,h3,h4,h5⟩:=h
 refine ⟨cur,h0,by omega,h2,h3,by rw [List.length_take]; omega,?_⟩
 rw [← zhn,← h5,List.take_take,Nat.min_eq_left hm]
theorem zqd (A : oA9) (n c : Nat) (w : World) (hA : zaf w 0 A n c) :
  Calls Tryz.prog 48 #[.agg #[.slice A n c]] w fun e w' => e = .returned (.string (zau (zbf 0))) ∧ Below w.heap.size w w':=by
 obtain ⟨hB,b2,b5⟩:=zaz w 29 #[.slice A n c]
 have HZ:=lh9 (zch rfl (hA.below hB))
 clear hA
 go_enter Tryz.func48,Tryz.ntmps48
 go_wp2_with fail
 refine HZ.out.mono ?_
 rintro e w1 ⟨rfl,hb⟩
 have hB1:=zac hB hb
 clear hb hB b2 b5 HZ
 go_wp2
 go_ret
 exact ⟨rfl,hB1⟩
theorem zqc (x : Nat) (A : oA9) (n c : Nat) (w : World) (hA : zaf w x A n c) (hx : x ≠ 0) (hn : n ≤ 1073741824) :
  Calls Tryz.prog 48 #[.agg #[.slice A n c]] w fun e w' => e = .returned (.string (zau (zbf x))) ∧ Below w.heap.size w w':=by
 obtain ⟨hB,b2,b5⟩:=zaz w 29 #[.slice A n c]
 have hw0:=hA.below hB
 have HZ:=lh9 (zcd hx hw0)
 obtain ⟨N,hN⟩ : ∃ N,(dg 10 x).length = N:=⟨_,rfl⟩
 have hNn : N ≤ 64 * n:=by
  rw [← hN]
  refine zaT (by decide) _ _ ?_
  have h:=zaU (b:=18446744073709551616) (by decide) x
  rw [hA.len,pow64] at h
  exact Nat.lt_of_lt_of_le h (Nat.pow_le_pow_left (by decide) _)
 have hN0 : 0 < N:=by rw [← hN]; exact (zeR (b:=10) (by decide) x hx).1
 have HN : Hid (∀ k,10 ^ k ≤ x → k ≤ N):=fun k hk => by
  have h:=zaU (b:=10) (by decide) x
  rw [hN] at h
  have:=(Nat.pow_lt_pow_iff_right (a:=10) (by decide)).1 (Nat.lt_of_le_of_lt hk h)
  omega
 have HSM : Hid (∀ y m,y ≤ x → (dg 18446744073709551616 y).length = m → m ≤ n):=fun y m hy e => by
  have:=zbe (b:=18446744073709551616) (by decide) hy
  rw [hA.len,e] at this
  exact this
 have HX:=lh9 hx
 have HNN:=lh9 hN
 have HT0:=lh9 (zfb.start x)
 clear hA hx hN
 go_enter Tryz.func48,Tryz.ntmps48
 go_wp2_with fail
 refine HZ.out.mono ?_
 rintro e w1 ⟨rfl,hb⟩
 have hB1:=zac hB hb
 have hk1:=zae hb b2
 have hw1:=hw0.below hb
 clear hb hB b2 b5 HZ hw0
 go_wp2_with fail
 go_loopg [3] (x + 1) (fun gg t wr => ∃ (tv : Value) (y : Nat) (D : List Nat) (B : oA9) (m d : Nat),tv = t ∧ y < gg ∧ Hid (zfb x y D) ∧ D.length ≤ N + 19 ∧ wr.ownsRow (w.heap.size + 1) 5 1 tv D.length (zaq .u8 (chN D)) ∧
   Blk wr w.heap.size 29 #[.slice B m d] ∧ zaf wr y B m d ∧ zcF tv B m ∧ Below w.heap.size w wr)
 case atStart => exact ⟨_,x,[],A,n,c,rfl,by omega,HT0,by simp,World.ownsRow_nil _ _ _ _,hk1,hw1,zcF.none_ _ _,hB1⟩
 case round =>
  clear hk1 hw1 hB1 HT0
  obtain ⟨tv,y,D,B,m,d,rfl,hyg,HTB,hDN,hown,hk,hw,has,hB⟩:=hrel
  have hyx : y ≤ x:=by
   have h1:=HTB.out.2
   have h2 : 1 * y ≤ 10 ^ D.length * y:=Nat.mul_le_mul_right _ (Nat.pow_pos (by decide))
   omega
  have hmn:=HSM.out y m hyx hw.len
  have g1:=hk.cell 0
  simp only [List.getElem?_toArray,List.getElem?_cons_zero] at g1
  by_cases hy : y = 0
  ·subst hy
   have HZ:=lh9 (zch rfl hw)
   have HDV:=lh9 HTB.out.done
   have HDD:=lh9 HTB.out.1
   have hD0 : 0 < D.length:=by
    rcases Nat.eq_zero_or_pos D.length with h | h
    ·have h1:=HDV.out
     rw [List.eq_nil_of_length_eq_zero h] at h1
     exact absurd h1.symm HX.out
    ·exact h
   clear has hw HTB hyx hmn
   go_wp2_with fail
   refine HZ.out.mono ?_
   rintro e w1 ⟨rfl,hb⟩
   have hB1:=zac hB hb
   obtain ⟨g,cap,rfl,hg,hR⟩:=zbA.of_own (zdI hown hb) hD0
   have hrm:=hR.room
   unfold maxLen at hrm
   have hdt:=dg_take (b:=10) (by decide) HDD.out
   rw [HDV.out,HNN.out] at hdt
   have hwo:=ziy ⟨g,0,none⟩ D.length cap _ D w1 hR.reads HDD.out hrm.1 (by omega) (by omega)
   rw [HDV.out,HNN.out] at hwo
   have HWO:=lh9 hwo
   have hR2:=hR.cut (m:=N) hdt.1
   have ech : (chN D).take N = chN (dg 10 x):=by unfold chN; rw [← List.map_take,hdt.2]
   rw [ech] at hR2
   have HRV:=lh9 (zjo 5 g cap N cap _ w1 hR2 hN0 (by omega) (by omega) (by omega))
   clear hb hB hown hwo hdt hk ech g1 HZ hR hR2
   go_wp2_with fail
   refine HWO.out.mono ?_
   rintro e w2 ⟨rfl,rfl⟩
   clear HWO
   go_wp2_with fail
   refine HRV.out.mono ?_
   rintro e w3 ⟨⟨rv,rfl⟩,hR3,hO⟩
   have hB3:=hO.below hB1 hB1.size (by omega)
   have hst:=zeL (P:=Tryz.prog) 42 9 5 Tryz.underlying42 Tryz.underlying5 Tryz.underlying9 (c:=cap) hR3.reads
   rw [zpb HX.out] at hst
   obtain ⟨Q,hQ⟩ : ∃ q,zau (zbf x) = q:=⟨_,rfl⟩
   rw [hQ] at hst
   have HQ:=lh9 hQ
   clear hR3 hO HRV hB1 hQ
   go_wp2
   go_ret
   exact ⟨by rw [HQ.out]; rfl,hB3⟩
  ·have HZ:=lh9 (zcd hy hw)
   have hDl:=HN.out _ (HTB.out.len hy)
   have HST:=lh9 HTB.out.step
   have HLT : Hid (y / 10000000000000000000 < y):=Nat.div_lt_self (Nat.pos_of_ne_zero hy) (by decide)
   have hpl : y % 10000000000000000000 < 18446744073709551616:=Nat.lt_trans (Nat.mod_lt _ (by decide)) (by decide)
   have HBYW:=lh9 (fun w' (h : Below wr.heap.size wr w') => zeT y 10000000000000000000 B m d w' (hw.below h) (by omega) (by decide) (by decide))
   obtain ⟨p,hp⟩ : ∃ p,y % 10000000000000000000 = p:=⟨_,rfl⟩
   obtain ⟨q,hq⟩ : ∃ p,y / 10000000000000000000 = p:=⟨_,rfl⟩
   rw [hp] at HST hpl HBYW
   rw [hq] at HST HBYW HLT
   clear hp hq hw has HTB hy hyx hmn
   go_wp2_with fail
   refine HZ.out.mono ?_
   rintro e w1 ⟨rfl,hb⟩
   have hB1:=zac hB hb
   have hown1:=zdI hown hb
   have hk1:=zae hb hk
   have g2:=zad hb g1
   have HBY2:=lh9 (HBYW.out w1 hb)
   clear hB hown hk g1 HZ hb HBYW
   go_wp2_with fail
   refine HBY2.out.mono ?_
   rintro e w2 ⟨B2,m2,d2,rfl,hw2,hb2,hf2⟩
   have hB2:=zac hB1 hb2
   have hown2:=zdI hown1 hb2
   have hk2:=zae hb2 hk1
   have has2 : zcF tv B2 m2:=zcF.fresh hf2 hown1
   have c2:=hk2.cell 0
   have f2:=hk2.frozen 0
   have hlt1:=hk1.lt
   have hlt2:=hk2.lt
   have hown3:=own_set hown2 (p:=⟨w.heap.size,0,none⟩) (by show w.heap.size < w.heap.size + 1; omega) (.slice B2 m2 d2)
   have hk3:=hk2.set_ 0 (.slice B2 m2 d2)
   have hw3:=zbW hw2 (p:=⟨w.heap.size,0,none⟩) (fun ad e => by have:=hf2 ad e; show ad.block ≠ w.heap.size; omega) (.slice B2 m2 d2)
   have hB3:=hB2.setCell (p:=⟨w.heap.size,0,none⟩) (Nat.le_refl _) (.slice B2 m2 d2)
   have hlt3 : w.heap.size + 1 ≤ (w2.setCell ⟨w.heap.size,0,none⟩ (.slice B2 m2 d2)).heap.size:=by have:=hk3.lt; omega
   clear hB1 hown1 hk1 g2 hB2 hown2 hk2 HBY2 hb2 hw2 hf2
   go_wp2_with fail
   clear c2 f2
   generalize w2.setCell ⟨w.heap.size,0,none⟩ (.slice B2 m2 d2) = W3 at *
   refine (zgc (w.heap.size + 1) D.length p tv _ W3 hown3 hlt3 (by omega) hpl).mono ?_
   rintro e w4 ⟨tv2,rfl,hown4,hG4⟩
   obtain ⟨hw4,has4⟩:=has2.words hw3 hG4
   have hk4:=hG4.blk hown3 hk3 (by omega)
   have hB4:=hG4.belowOf hown3 hB3 (by omega)
   have hown5 : w4.ownsRow (w.heap.size + 1) 5 1 tv2 (D ++ zfP 19 p).length (zaq .u8 (chN (D ++ zfP 19 p))):=by
    rw [zit,zaY,List.length_append,zgD]; exact hown4
   clear hown4 hG4 has2 hw3 hk3 hown3 hB3
   go_wp2
   go_roundg y
   case measure => omega
   case rel => exact ⟨tv2,q,_,B2,m2,d2,rfl,HLT.out,HST,by rw [List.length_append,zgD]; omega,hown5,hk4,hw4,has4,hB4⟩
theorem zhz (x : Nat) (A : oA9) (n c : Nat) (w : World) (hA : zaf w x A n c) (hn : n ≤ 1073741824) :
  Calls Tryz.prog 48 #[.agg #[.slice A n c]] w fun e w' => e = .returned (.string (zau (zbf x))) ∧ Below w.heap.size w w':=by
 by_cases hx : x = 0
 ·subst hx; exact zqd A n c w hA
 ·exact zqc x A n c w hA hx hn
theorem zoA (a b : List UInt8) : zaG (a ++ b) = zaG a * 10 ^ b.length + zaG b:=by
 unfold zaG zeW
 rw [List.map_append,List.reverse_append,zbl,Nat.add_comm,Nat.mul_comm]
 congr 2
 simp
theorem zgS (l : List UInt8) (i j : Nat) : (zau l).extract i j = zau ((l.drop i).take (j - i)):=ByteArray.extract_mk l i j
theorem zjq {P : Program} {t : TypeId} (ht : P.underlying t = some .string) (l : List UInt8) (k : Nat) (h : k ≤ l.length) (w : World) : (Instr.slice t (.string (zau l)) none (some (.int .i64 (k : Int))) none).run P w = .ok (.string (zau (l.take k))) w:=by
 rw [run_slice_string_to_if w t _ .i64 _ ht,if_pos ⟨by omega,by rw [zay]; omega⟩,zgS]
 rfl
theorem zew {P : Program} {t : TypeId} (ht : P.underlying t = some .string) (l : List UInt8) (k : Nat) (h : k ≤ l.length) (w : World) : (Instr.slice t (.string (zau l)) (some (.int .i64 (k : Int))) none none).run P w = .ok (.string (zau (l.drop k))) w:=by
 rw [run_slice_string_from_if w t _ .i64 _ ht,if_pos ⟨by omega,by rw [zay]; omega⟩,zgS,zay]
 congr 3
 rw [List.take_of_length_le (by simp)]
 rfl
theorem read_no (s : ByteArray) (w : World) (hs : s.size ≤ 2147483648) (hp : okR s.data.toList = false) :
  Calls Tryz.prog 58 #[.string s] w (zbI w 0 false):=by
 obtain ⟨hB,b2,b5⟩:=zaz w 29 #[.slice none 0 0]
 have HP:=lh9 (zfS s (w.alloc (.cells #[.slice none 0 0] 29)) (by omega))
 rw [hp] at HP
 clear hp hs
 go_enter Tryz.func58,Tryz.ntmps58
 go_wp2_with fail
 refine HP.out.mono ?_
 rintro e w1 ⟨rfl,rfl⟩
 clear HP b5
 generalize w.alloc (.cells #[.slice none 0 0] 29) = W at *
 have c1:=b2.cell 0
 have f1:=b2.frozen 0
 have p4 : zbP W w.heap.size (.slice none 0 0):=⟨_,b2⟩
 have r4:=(p4.set_ (.slice none 0 0)).cell
 have HG : Hid (Below w.heap.size w (W.setCell ⟨w.heap.size,0,none⟩ (.slice none 0 0))):=hB.setCell (Nat.le_refl _) _
 clear b2 p4 hB
 go_wp2
 refine bodyPost_ret (v:=.tuple #[.agg #[.slice none 0 0],.bool false]) (by simp [results,Tryz.results58,go_sem,r4]) rfl ?_
 exact ⟨none,0,0,rfl,zdV _,HG.out⟩
theorem read_yes (s : ByteArray) (w : World) (hs : s.size ≤ 2147483648) (hp : okR s.data.toList = true) :
  Calls Tryz.prog 58 #[.string s] w (zbI w (zaG s.data.toList) true):=by
 obtain ⟨hB,b2,b5⟩:=zaz w 29 #[.slice none 0 0]
 have HP:=lh9 (zfS s (w.alloc (.cells #[.slice none 0 0] 29)) (by omega))
 rw [hp] at HP
 obtain ⟨L,rfl⟩ : ∃ L,s = zau L:=⟨_,(zlD s).symm⟩
 rw [zaI] at hp ⊢
 rw [zay] at hs
 have hall : L.all zbm = true:=by
  unfold okR at hp
  simp only [Bool.and_eq_true] at hp
  exact hp.2
 have HAL:=lh9 hall
 have hsz : (zau L).size = L.length:=zay L
 obtain ⟨S,hS⟩ : ∃ S,L.length = S:=⟨_,rfl⟩
 rw [hS] at hs hsz
 have HS:=lh9 hS
 obtain ⟨H,hH⟩ : ∃ H,S % 19 = H:=⟨_,rfl⟩
 have hH19 : H < 19:=by omega
 have hHS : H ≤ S:=by omega
 have s1 : ∀ w,(Instr.slice 9 (.string (zau L)) none (some (.int .i64 (H : Int))) none).run Tryz.prog w = .ok (.string (zau (L.take H))) w:=zjq Tryz.underlying9 L H (by rw [hS]; exact hHS)
 have s2 : ∀ w,(Instr.slice 9 (.string (zau L)) (some (.int .i64 (H : Int))) none none).run Tryz.prog w = .ok (.string (zau (L.drop H))) w:=zew Tryz.underlying9 L H (by rw [hS]; exact hHS)
 have HRP:=lh9 (fun w => zel (zau (L.take H)) w (by rw [zaI]; exact zfc hall H) (by rw [zay,List.length_take]; omega))
 simp only [zaI] at HRP
 have hv0 : zaG (L.take H) < 18446744073709551616:=by
  have h1:=zib (zfc hall H)
  rw [List.length_take] at h1
  exact Nat.lt_of_lt_of_le h1 (Nat.le_trans (Nat.pow_le_pow_right (by decide) (show min H L.length ≤ 19 by omega)) (by decide))
 have e1 : (S : Int) % 19 = (H : Int):=by omega
 have HOF : Hid (∀ W r,Blk W r 81 #[.int .u64 (zaG (L.take H) : Nat)] → Calls Tryz.prog 34 #[.slice (some ⟨r,0,none⟩) 1 1] W (zaR W (zaG (L.take H)))):=fun W r hk =>
  zby _ [zaG (L.take H)] W r 1 _ hk rfl rfl (zeG _ hv0) (by simp [dv]) (by decide)
 have HMOD : Hid ((S - H) % 19 = 0):=by show _ = _; omega
 obtain ⟨U0,hU0⟩ : ∃ u,zau L = u:=⟨_,rfl⟩
 obtain ⟨U1,hU1⟩ : ∃ u,zau (L.take H) = u:=⟨_,rfl⟩
 obtain ⟨U2,hU2⟩ : ∃ u,zau (L.drop H) = u:=⟨_,rfl⟩
 obtain ⟨v0,hv⟩ : ∃ v,zaG (L.take H) = v:=⟨_,rfl⟩
 rw [hU0] at hsz s1 s2 HP ⊢
 rw [hU1] at s1 HRP
 rw [hU2] at s2
 rw [hv] at HRP HOF hv0
 have HU2:=lh9 hU2
 have HV:=lh9 hv
 clear hp hall hS hH hU0 hU1 hU2 hv
 go_enter Tryz.func58,Tryz.ntmps58
 go_wp2_with fail
 refine HP.out.mono ?_
 rintro e w1 ⟨rfl,rfl⟩
 clear HP b5
 generalize w.alloc (.cells #[.slice none 0 0] 29) = W at *
 go_wp2_with fail
 refine (HRP.out _).mono ?_
 rintro e w1 ⟨rfl,rfl⟩
 clear s1 hsz
 go_wp2_with fail
 have hb0:=zan (.cells #[.int .u64 (v0 : Int)] 81) hB
 refine (HOF.out _ _ (Blk.new W _ _)).mono ?_
 rintro e w2 ⟨A2,n2,c2,rfl,hw2,hb,hf2⟩
 have hB2:=zac hb0 hb
 have hk2:=zae hb (b2.alloc (.cells #[.int .u64 (v0 : Int)] 81))
 clear hb hb0 HOF b2 hB
 go_wp2_with fail
 obtain ⟨d1,d2,d5⟩:=zaz w2 29 #[.slice A2 n2 c2]
 have hB3:=zac hB2 d1
 have hk3:=zae d1 hk2
 have hw3:=hw2.below d1
 have hz0:=hk2.lt
 have hzw:=hB2.size
 generalize w2.alloc (.cells #[.slice A2 n2 c2] 29) = W3 at *
 obtain ⟨z,hz⟩ : ∃ z,w2.heap.size = z:=⟨_,rfl⟩
 rw [hz] at d2 hz0 hzw ⊢
 have H1 : Hid (zaf W3 (zaG (L.take H)) A2 n2 c2):=by show zaf _ _ _ _ _; rw [HV.out]; exact hw3
 clear hw2 hf2 hz d1 d5 hB2 hk2 hw3 s2 e1 HV HRP
 go_loopg [0] (S + 1) (fun gg u wr => ∃ (k : Nat) (U : ByteArray) (A3 : oA9) (n3 c3 : Nat),u = .string U ∧ Hid (zau (L.drop k) = U) ∧ k ≤ S ∧ S < gg + k ∧ Hid ((S - k) % 19 = 0) ∧ Blk wr z 29 #[.slice A3 n3 c3] ∧ zaf wr (zaG (L.take k)) A3 n3 c3 ∧ Below w.heap.size w wr ∧ Blk wr w.heap.size 29 #[.slice none 0 0])
 case atStart => exact ⟨H,U2,A2,n2,c2,rfl,HU2,hHS,by omega,HMOD,d2,H1.out,hB3,hk3⟩
 case round =>
  clear d2 hB3 hk3 H1 HU2 HMOD
  obtain ⟨k,U,A3,n3,c3,rfl,HU,hk,hg,HMOD,hz3,hw3,hB3,hk3⟩:=hrel
  by_cases hlt : k < S
  ·have hk19 : k + 19 ≤ S:=by have:=HMOD.out; omega
   have hdl : (L.drop k).length = S - k:=by rw [List.length_drop,HS.out]
   have hne : ¬ (L.drop k) = []:=fun e => by rw [e] at hdl; simp at hdl; omega
   have t1 : (U.toList == []) = false:=zcN _ _ _ (by rw [← HU.out,zaI]; exact decide_eq_false hne)
   have t2 : (U.toList != []) = true:=by rw [bne,t1]; rfl
   have t3 : ¬ U.toList = []:=fun e => by rw [e] at t1; simp at t1
   have t4 : U.toList.isEmpty = false:=by cases hq : U.toList with | nil => exact absurd hq t3 | cons a b => rfl
   have s3 : ∀ w,(Instr.slice 9 (.string U) none (some (.int .i64 19)) none).run Tryz.prog w = .ok (.string (zau ((L.drop k).take 19))) w:=fun w => by
    have h:=zjq Tryz.underlying9 (L.drop k) 19 (by omega) w
    rw [HU.out] at h; exact h
   have s4 : ∀ w,(Instr.slice 9 (.string U) (some (.int .i64 19)) none none).run Tryz.prog w = .ok (.string (zau (L.drop (k + 19)))) w:=fun w => by
    have h:=zew Tryz.underlying9 (L.drop k) 19 (by omega) w
    rw [HU.out,List.drop_drop] at h; exact h
   have hall2 : ((L.drop k).take 19).all zbm = true:=zfc (List.all_eq_true.2 fun c hc => List.all_eq_true.1 HAL.out c (List.mem_of_mem_drop hc)) 19
   have HRP:=lh9 (fun w => zel (zau ((L.drop k).take 19)) w (by rw [zaI]; exact hall2) (by rw [zay,List.length_take]; omega))
   simp only [zaI] at HRP
   have hvl : zaG ((L.drop k).take 19) < 18446744073709551616:=by
    have h1:=zib hall2
    rw [List.length_take] at h1
    exact Nat.lt_of_lt_of_le h1 (Nat.le_trans (Nat.pow_le_pow_right (by decide) (show min 19 (L.drop k).length ≤ 19 by omega)) (by decide))
   have hval : zaG (L.take (k + 19)) = zaG (L.take k) * 10000000000000000000 + zaG ((L.drop k).take 19):=by
    rw [List.take_add,zoA,List.length_take,hdl,Nat.min_eq_left (by omega)]
   have hn3 : n3 ≤ 274877906944:=by
    have h1:=zib (zfc HAL.out k)
    rw [List.length_take] at h1
    have h2:=zaT (b:=18446744073709551616) (by decide) _ _ (Nat.lt_of_lt_of_le h1 (Nat.pow_le_pow_left (show 10 ≤ 18446744073709551616 by decide) _))
    rw [hw3.len] at h2
    omega
   have HBY:=lh9 (fun w' (h : Below wr.heap.size wr w') => zmY (zaG (L.take k)) 10000000000000000000 (zaG ((L.drop k).take 19)) A3 n3 c3 w' (hw3.below h) hn3 (by decide) hvl)
   rw [← hval] at HBY
   obtain ⟨v,hv⟩ : ∃ v,zaG ((L.drop k).take 19) = v:=⟨_,rfl⟩
   rw [hv] at HBY HRP hvl
   obtain ⟨P,hP⟩ : ∃ v,zau ((L.drop k).take 19) = v:=⟨_,rfl⟩
   rw [hP] at s3 HRP
   obtain ⟨U',hU'⟩ : ∃ v,zau (L.drop (k + 19)) = v:=⟨_,rfl⟩
   rw [hU'] at s4
   have HU2:=lh9 hU'
   obtain ⟨Y,hY⟩ : ∃ v,zaG (L.take (k + 19)) = v:=⟨_,rfl⟩
   rw [hY] at HBY
   have HY:=lh9 hY
   have hbw : Hid (Below wr.heap.size wr wr.drew):=(Below.refl _ wr).drew
   have hzl:=hz3.lt
   have HBYD:=lh9 (fun h => HBY.out wr.drew h)
   have g1:=hz3.cell 0
   simp only [List.getElem?_toArray,List.getElem?_cons_zero] at g1
   have g0 : wr.drew.cell? ⟨z,0,none⟩ = some (.slice A3 n3 c3):=g1
   clear hdl hne hall2 hval hU' hP hv hY hn3 hw3
   go_wp2_with fail
   go_region_law (first
    | (go_simp; go_at_call 104; refine (HRP.out _).mono ?_; rintro e w3 ⟨rfl,rfl⟩)
    | (go_simp; go_at_call 105; refine (HBYD.out hbw.out).mono ?_; rintro e w4 ⟨A4,n4,c4,rfl,hw4,hb4,hf4⟩; have hk4:=zae (hbw.out.trans hb4) hz3; have hc4:=hk4.cell 0; have hf5:=hk4.frozen 0))
   all_goals
    have hb5:=hbw.out.trans hb4
    have hB4:=zac hB3 hb5
    have hsw:=hb5.size
    have HZ:=lh9 (hk4.set_ 0 (.slice A4 n4 c4))
    have HB5:=lh9 (hB4.setCell (p:=⟨z,0,none⟩) hzw (.slice A4 n4 c4))
    have HK5:=lh9 ((zae hb5 hk3).far (p:=⟨z,0,none⟩) (by show w.heap.size ≠ z; omega) (.slice A4 n4 c4))
    have HW5:=lh9 (zbW hw4 (p:=⟨z,0,none⟩) (fun ad e => by have:=hf4 ad e; have:=hbw.out.size; show ad.block ≠ z; omega) (.slice A4 n4 c4))
    have HM2 : Hid ((S - (k + 19)) % 19 = 0):=by have:=HMOD.out; show _ = _; omega
    clear hb5 hB4 hw4 hf4 hk4 hc4 hf5 hb4 hz3 hB3 hk3 t1 t2 t3 t4 HMOD g0 g1 s3
    go_wp2
    go_roundg (S - k)
    case measure => omega
    case rel => exact ⟨k + 19,U',A4,n4,c4,rfl,HU2,hk19,by omega,HM2,HZ.out,by rw [HY.out]; exact HW5.out,HB5.out,HK5.out⟩
  ·have hkS : k = S:=by omega
   subst hkS
   have hnil : L.drop k = []:=List.drop_of_length_le (by rw [HS.out]; exact Nat.le_refl _)
   have t1 : (U.toList == []) = true:=zcN _ _ _ (by rw [← HU.out,zaI]; exact decide_eq_true hnil)
   have t2 : (U.toList != []) = false:=by rw [bne,t1]; rfl
   have t3 : U.toList = []:=by simpa using t1
   have hx : zaG (L.take k) = zaG L:=by rw [List.take_of_length_le (by rw [HS.out]; exact Nat.le_refl _)]
   rw [hx] at hw3
   have g1:=hz3.cell 0
   simp only [List.getElem?_toArray,List.getElem?_cons_zero] at g1
   have c1:=hk3.cell 0
   have f1:=hk3.frozen 0
   have p4 : zbP wr w.heap.size (.slice none 0 0):=⟨_,hk3⟩
   have r4:=(p4.set_ (.slice A3 n3 c3)).cell
   have HG : Hid (zbI w (zaG L) true (.returned (.tuple #[.agg #[.slice A3 n3 c3],.bool true])) (wr.setCell ⟨w.heap.size,0,none⟩ (.slice A3 n3 c3))) :=
    ⟨A3,n3,c3,rfl,zdn hw3 hk3 _,hB3.setCell (Nat.le_refl _) _⟩
   clear hnil hx hw3 hz3 hk3 p4 hB3 HMOD
   go_wp2
   refine bodyPost_ret (v:=.tuple #[.agg #[.slice A3 n3 c3],.bool true]) (by simp [results,Tryz.results58,go_sem,r4]) rfl ?_
   exact HG.out
theorem zbY (s : ByteArray) (w : World) (hs : s.size ≤ 2147483648) :
  Calls Tryz.prog 58 #[.string s] w (zbI w (if okR s.data.toList then zaG s.data.toList else 0) (okR s.data.toList)):=by
 cases hp : okR s.data.toList
 ·exact read_no s w hs hp
 ·exact read_yes s w hs hp
end Go.Proofs.YtfieheffipfahaaGreatDoor
