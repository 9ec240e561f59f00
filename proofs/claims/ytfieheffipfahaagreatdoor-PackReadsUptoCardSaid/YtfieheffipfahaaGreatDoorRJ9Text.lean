/- What this claim leans on. -/
import Derived.Test.YtfieheffipfahaaGreatDoorRJ9Dec
namespace Go.Proofs.YtfieheffipfahaaGreatDoor
open Go Go.RowKit
set_option maxHeartbeats 16000000
set_option maxRecDepth 100000
set_option linter.unusedVariables false
set_option linter.unusedSimpArgs false
theorem zju {P : Program} {f : FuncId} {args : Array Value} {w : World} {z v : ByteArray} (e : z = v) (h : Calls P f args w fun e w' => e = .returned (.string z) ∧ Below w.heap.size w w') : Calls P f args w fun e w' => e = .returned (.string v) ∧ Below w.heap.size w w':=by
 subst e; exact h
theorem znn {K : Nat} {z : Int} (h : Sz K z.natAbs) : (zbn z).length ≤ 64 * K + 2:=by
 have:=zdU h
 unfold zbn
 split
 ·simp; omega
 ·omega
theorem zkC {r : Rat} (h : r.den = 1) : zau (zcg r) = zau (zbn r.num):=by unfold zcg; rw [if_pos h,List.append_nil]
theorem zjp (a b : List UInt8) : zau a ++ zau b = zau (a ++ b):=by
 apply ByteArray.ext
 simp [zau]
theorem zjt {r : Rat} (h : r.den ≠ 1) : zau (zcg r) = (zau (zbn r.num) ++ { data:=#[47] }) ++ zau (zbf r.den):=by
 rw [show ({ data:=#[47] } : ByteArray) = zau [47] from rfl,zjp,zjp]
 unfold zcg
 rw [if_neg h]; simp
theorem zmW (r : Rat) (baa : Bool) (Baa : oA9) (maa daa : Nat) (Eaa : oA9) (uaa vaa : Nat) (w : World) (hT : zam w) (haa : zaF w r baa Baa maa daa Eaa uaa vaa) (qaa : zbL maa uaa) (hd : r.den = 1) :
  Calls Tryz.prog 16 #[.agg #[.bool baa,.slice Baa maa daa,.slice Eaa uaa vaa]] w (fun e w' => e = .returned (.string (zau (zcg r))) ∧ Below w.heap.size w w'):=by
 have HIC:=lh9 (zbh (T:=zam))
 have HT:=lh9 (fun w' (hb : Below w.heap.size w w') => hT.on hb)
 obtain ⟨K,hKe⟩ : ∃ K,67108864 = K:=⟨_,rfl⟩
 have hKK : K ≤ 67108864:=by omega
 have hK0 : 0 < K:=by omega
 have hK9 : 255 ≤ K:=by omega
 have ef1:=zaH
 have ef2:=zaJ
 have ef3:=zaM
 have ef4:=zaN
 have HI:=lh9 hd
 rw [zkC hd]
 obtain ⟨T1,hT1⟩ : ∃ x,zau (zbn r.num) = x:=⟨_,rfl⟩
 rw [hT1]
 have HT1:=lh9 hT1
 clear hT1
 have HNaa:=lh9 (fun w' (b : Below w.heap.size w w') => haa.below b)
 obtain ⟨xaa,hxaa,hxwaa⟩:=haa.2
 have HXaa:=lh9 hxaa
 have HZaa : Hid (SzQ K r):=zbu haa qaa hKe
 have HZaap : Hid (Sz K r.num.natAbs):=HZaa.out.num
 have HZaaq : Hid (Sz K xaa):=zaV HZaa.out.den hxaa
 have HNaap:=lh9 (fun w' (b : Below w.heap.size w w') => haa.1.below b)
 have HNaaq:=lh9 (fun w' (b : Below w.heap.size w w') => hxwaa.below b)
 clear haa qaa hxaa hxwaa
 clear hT hKe hd
 go_enter Tryz.func16,Tryz.ntmps16
 have hB:=Below.refl w.heap.size w
 obtain ⟨bx1,bx2,bz⟩:=zaz w 33 #[.bool baa,.slice Baa maa daa,.slice Eaa uaa vaa]
 have hB:=zac hB bx1
 obtain ⟨g1,e1,i1⟩:=bx2.c3
 clear bx1 bx2 bz
 go_wp2_with fail
 generalize w.alloc (.cells #[.bool baa,.slice Baa maa daa,.slice Eaa uaa vaa] 33) = W1 at *
 have HZ2 : Hid (Sz (K) (r.num).natAbs):=SzQ.num HZaa.out
 (with_reducible refine (zhZ (r) baa Baa maa daa Eaa uaa vaa _ (HT.out _ hB) (HNaa.out _ hB) (szq HZaa (HNaa.out _ hB))).mono ?_)
 rintro e wc2 ⟨b2,B2,m2,d2,rfl,hw2,hb⟩
 have hB:=zac hB hb
 have g1:=zad hb g1
 have e1:=zad hb e1
 have i1:=zad hb i1
 have HN2:=lh9 hw2
 clear hb hw2
 go_wp2_with fail
 (with_reducible refine (zju (v:=T1) (HT1.out) (zeJ (r.num) b2 B2 m2 d2 _ HN2.out (szi HZ2 HN2.out))).mono ?_)
 rintro e wc3 ⟨rfl,hb⟩
 have hB:=zac hB hb
 have g1:=zad hb g1
 have e1:=zad hb e1
 have i1:=zad hb i1
 have HN2:=lh9 (HN2.out.below hb)
 clear hb 
 go_wp2_with fail
 (with_reducible refine (zaW (decide_eq_true HI.out) (zbt (r) baa Baa maa daa Eaa uaa vaa _ (HT.out _ hB) (HNaa.out _ hB) (szq HZaa (HNaa.out _ hB)))).mono ?_)
 rintro e wc4 ⟨rfl,hb⟩
 have hB:=zac hB hb
 have g1:=zad hb g1
 have e1:=zad hb e1
 have i1:=zad hb i1
 have HN2:=lh9 (HN2.out.below hb)
 clear hb 
 go_wp2
 go_ret
 exact ⟨by first | rfl | simp,hB⟩
theorem zmV (r : Rat) (baa : Bool) (Baa : oA9) (maa daa : Nat) (Eaa : oA9) (uaa vaa : Nat) (w : World) (hT : zam w) (haa : zaF w r baa Baa maa daa Eaa uaa vaa) (qaa : zbL maa uaa) (hd : r.den ≠ 1) :
  Calls Tryz.prog 16 #[.agg #[.bool baa,.slice Baa maa daa,.slice Eaa uaa vaa]] w (fun e w' => e = .returned (.string (zau (zcg r))) ∧ Below w.heap.size w w'):=by
 have HIC:=lh9 (zbh (T:=zam))
 have HT:=lh9 (fun w' (hb : Below w.heap.size w w') => hT.on hb)
 obtain ⟨K,hKe⟩ : ∃ K,67108864 = K:=⟨_,rfl⟩
 have hKK : K ≤ 67108864:=by omega
 have hK0 : 0 < K:=by omega
 have hK9 : 255 ≤ K:=by omega
 have ef1:=zaH
 have ef2:=zaJ
 have ef3:=zaM
 have ef4:=zaN
 have HI:=lh9 hd
 rw [zjt hd]
 have hsz : SzQ K r:=zbu haa qaa hKe
 have hl1:=znn hsz.num
 have hl2:=zdU hsz.den
 obtain ⟨T1,hT1⟩ : ∃ x,zau (zbn r.num) = x:=⟨_,rfl⟩
 obtain ⟨T2,hT2⟩ : ∃ x,zau (zbf r.den) = x:=⟨_,rfl⟩
 have z1 : T1.size ≤ 4294967298:=by rw [← hT1,zay]; omega
 have z2 : T2.size ≤ 4294967298:=by rw [← hT2,zay]; omega
 rw [hT1,hT2]
 have HT1:=lh9 hT1
 have HT2:=lh9 hT2
 have zc : ({ data:=#[47] } : ByteArray).size = 1:=rfl
 have a1 : ∀ w' : World,(Op.stringOp .add T1 ({ data:=#[47] } : ByteArray)).run Tryz.prog w' = .ok (.string (T1 ++ { data:=#[47] })) w':=fun w' => run_string_add_sum w' _ _ (by omega)
 obtain ⟨U,hU⟩ : ∃ x,T1 ++ ({ data:=#[47] } : ByteArray) = x:=⟨_,rfl⟩
 have z3 : U.size ≤ 4294967299:=by rw [← hU,ByteArray.size_append]; omega
 rw [hU] at a1
 rw [hU]
 have a2 : ∀ w' : World,(Op.stringOp .add U T2).run Tryz.prog w' = .ok (.string (U ++ T2)) w':=fun w' => run_string_add_sum w' _ _ (by omega)
 obtain ⟨V,hV⟩ : ∃ x,U ++ T2 = x:=⟨_,rfl⟩
 rw [hV] at a2
 rw [hV]
 clear hT1 hT2 hl1 hl2 z1 z2 z3 zc hU hV hsz
 have HNaa:=lh9 (fun w' (b : Below w.heap.size w w') => haa.below b)
 obtain ⟨xaa,hxaa,hxwaa⟩:=haa.2
 have HXaa:=lh9 hxaa
 have HZaa : Hid (SzQ K r):=zbu haa qaa hKe
 have HZaap : Hid (Sz K r.num.natAbs):=HZaa.out.num
 have HZaaq : Hid (Sz K xaa):=zaV HZaa.out.den hxaa
 have HNaap:=lh9 (fun w' (b : Below w.heap.size w w') => haa.1.below b)
 have HNaaq:=lh9 (fun w' (b : Below w.heap.size w w') => hxwaa.below b)
 clear haa qaa hxaa hxwaa
 clear hT hKe hd
 go_enter Tryz.func16,Tryz.ntmps16
 have hB:=Below.refl w.heap.size w
 obtain ⟨bx1,bx2,bz⟩:=zaz w 33 #[.bool baa,.slice Baa maa daa,.slice Eaa uaa vaa]
 have hB:=zac hB bx1
 obtain ⟨g1,e1,i1⟩:=bx2.c3
 clear bx1 bx2 bz
 go_wp2_with fail
 generalize w.alloc (.cells #[.bool baa,.slice Baa maa daa,.slice Eaa uaa vaa] 33) = W1 at *
 have HZ2 : Hid (Sz (K) (r.num).natAbs):=SzQ.num HZaa.out
 (with_reducible refine (zhZ (r) baa Baa maa daa Eaa uaa vaa _ (HT.out _ hB) (HNaa.out _ hB) (szq HZaa (HNaa.out _ hB))).mono ?_)
 rintro e wc2 ⟨b2,B2,m2,d2,rfl,hw2,hb⟩
 have hB:=zac hB hb
 have g1:=zad hb g1
 have e1:=zad hb e1
 have i1:=zad hb i1
 have HN2:=lh9 hw2
 clear hb hw2
 go_wp2_with fail
 (with_reducible refine (zju (v:=T1) (HT1.out) (zeJ (r.num) b2 B2 m2 d2 _ HN2.out (szi HZ2 HN2.out))).mono ?_)
 rintro e wc3 ⟨rfl,hb⟩
 have hB:=zac hB hb
 have g1:=zad hb g1
 have e1:=zad hb e1
 have i1:=zad hb i1
 have HN2:=lh9 (HN2.out.below hb)
 clear hb 
 go_wp2_with fail
 (with_reducible refine (zaW (decide_eq_false HI.out) (zbt (r) baa Baa maa daa Eaa uaa vaa _ (HT.out _ hB) (HNaa.out _ hB) (szq HZaa (HNaa.out _ hB)))).mono ?_)
 rintro e wc4 ⟨rfl,hb⟩
 have hB:=zac hB hb
 have g1:=zad hb g1
 have e1:=zad hb e1
 have i1:=zad hb i1
 have HN2:=lh9 (HN2.out.below hb)
 clear hb 
 go_wp2_with fail
 have HZ3 : Hid (Sz (K) (r.den)):=SzQ.den HZaa.out
 (with_reducible refine (zhX (r) baa Baa maa daa Eaa uaa vaa _ (HT.out _ hB) (HNaa.out _ hB) (szq HZaa (HNaa.out _ hB))).mono ?_)
 rintro e wc5 ⟨B3,m3,d3,rfl,hw3,hb⟩
 have hB:=zac hB hb
 have g1:=zad hb g1
 have e1:=zad hb e1
 have i1:=zad hb i1
 have HN2:=lh9 (HN2.out.below hb)
 have HN3:=lh9 hw3
 clear hb hw3
 go_wp2_with fail
 (with_reducible refine (zju (v:=T2) (HT2.out) (zhz (r.den) B3 m3 d3 _ HN3.out (szw HZ3 HN3.out))).mono ?_)
 rintro e wc6 ⟨rfl,hb⟩
 have hB:=zac hB hb
 have g1:=zad hb g1
 have e1:=zad hb e1
 have i1:=zad hb i1
 have HN2:=lh9 (HN2.out.below hb)
 have HN3:=lh9 (HN3.out.below hb)
 clear hb 
 go_wp2
 go_ret
 exact ⟨by first | rfl | simp,hB⟩
theorem zpH (r : Rat) (baa : Bool) (Baa : oA9) (maa daa : Nat) (Eaa : oA9) (uaa vaa : Nat) (w : World) (hT : zam w) (haa : zaF w r baa Baa maa daa Eaa uaa vaa) (qaa : zbL maa uaa) :
  Calls Tryz.prog 16 #[.agg #[.bool baa,.slice Baa maa daa,.slice Eaa uaa vaa]] w (fun e w' => e = .returned (.string (zau (zcg r))) ∧ Below w.heap.size w w'):=by
 by_cases hd : r.den = 1
 ·exact zmW r baa Baa maa daa Eaa uaa vaa w hT haa qaa hd
 ·exact zmV r baa Baa maa daa Eaa uaa vaa w hT haa qaa hd
theorem own_gcd {s : Bool} {x d : Nat} (hd : d ≠ 0) : (Rat.divInt (sg9 s x) ((d : Nat) : Int)).den = d ↔ Nat.gcd x d = 1:=by
 rw [zer _ _ (by omega),zbJ,Int.natAbs_natCast,Nat.div_eq_self]
 exact ⟨fun h => h.resolve_left hd,.inr⟩
theorem made_ne {s : Bool} {x d : Nat} (hd : d ≠ 0) (hx : x ≠ 0) : Rat.divInt (sg9 s x) ((d : Nat) : Int) ≠ 0:=fun h => by
 have h1:=zfj (sg9 s x) ((d : Nat) : Int) (by omega)
 rw [h,zbJ,Int.natAbs_natCast] at h1
 have h2:=Nat.div_pos (Nat.le_of_dvd (Nat.pos_of_ne_zero hx) (Nat.gcd_dvd_left x d)) (Nat.gcd_pos_of_pos_right x (Nat.pos_of_ne_zero hd))
 have : Int.natAbs (0 : Rat).num = 0:=rfl
 omega
theorem zke {s : Bool} {x d : Nat} (hd : d ≠ 0) (hx : x ≠ 0) : zbM (Rat.divInt (sg9 s x) ((d : Nat) : Int)) = (if (Rat.divInt (sg9 s x) ((d : Nat) : Int)).den = 1 then 1 else 3) + (if s = true then 1 else 0):=by
 rw [zoL (made_ne hd hx)]
 have h2:=zes (sg9 s x) ((d : Nat) : Int) (by omega)
 have h3 : sg9 s x < 0 ↔ s = true:=by unfold sg9; cases s <;> simp; omega
 by_cases hs : s = true
 ·rw [if_pos hs,if_pos (h2.2 (.inl ⟨h3.2 hs,by omega⟩))]
 ·have h4 : ¬ (Rat.divInt (sg9 s x) ((d : Nat) : Int)).num < 0:=fun h => by
   rcases h2.1 h with h | h
   ·exact hs (h3.1 h.1)
   ·omega
  rw [if_neg hs,if_neg h4]
theorem zjr {l : List Nat} {k : Nat} (h : zax l k = 0) : zaj l k ≠ 0 ∧ zat l k ≤ l.length:=by
 unfold zax at h
 split at h
 ·cases h
 ·split at h
  ·rename_i h1 h2; exact ⟨h2.2,by unfold zat; omega⟩
  ·cases h
theorem zoa {s : Bool} {x : Nat} (hx : x ≠ 0) : zbM ((sg9 s x : Int) : Rat) = if s = true then 2 else 1:=by
 have h:=zke (s:=s) (d:=1) (by decide) hx
 rw [(zdc _).2,(zdc _).1,if_pos rfl] at h
 rw [h]; split <;> rfl
theorem zmL (l : List Nat) (A : oA9) (n c : Nat) (w : World) (hT : zam w) (h : zaB w l A n c) (hn : n ≤ 2147483648) :
  Calls Tryz.prog 18 #[.slice A n c] w (zbd w (zdf l)):=by
 have hl:=h.len
 unfold zdf
 by_cases h0 : l = []
 ·rw [if_pos h0]; exact zjC l A n c w hT h hn (by rw [← hl,h0]; rfl)
 have hp : 0 < n:=by rw [← hl]; exact List.length_pos_iff.2 h0
 rw [if_neg h0]
 by_cases h4 : 4 < l.getD 0 0
 ·rw [if_pos h4]; exact zjD l A n c w hT h hn hp h4
 rw [if_neg h4]
 by_cases hz : l.getD 0 0 = 0
 ·rw [if_pos hz]; exact zjB l A n c w hT h hn hp hz
 rw [if_neg hz]
 by_cases h2 : l.getD 0 0 ≤ 2
 ·rw [if_pos h2]
  by_cases he : zax l 1 = 0
  ·rw [if_pos he]
   have hk:=fun s => zoa (s:=s) (zjr he).1
   rcases (show l.getD 0 0 = 1 ∨ l.getD 0 0 = 2 by omega) with hb | hb
   ·rw [decide_eq_false (by omega)]; exact ziU l A n c w hT h hn hp hb he (hk false)
   ·rw [decide_eq_true hb]; exact ziW l A n c w hT h hn hp hb he (hk true)
  ·rw [if_neg he]
   rcases (show l.getD 0 0 = 1 ∨ l.getD 0 0 = 2 by omega) with hb | hb
   ·exact ziT l A n c w hT h hn hp hb he
   ·exact ziV l A n c w hT h hn hp hb he
 rw [if_neg h2]
 have hb34 : l.getD 0 0 = 3 ∨ l.getD 0 0 = 4:=by omega
 by_cases he : zax l 1 = 0
 ·obtain ⟨hd,hk1⟩:=zjr he
  rw [hl] at hk1
  rw [if_neg (fun k => k he)]
  by_cases he2 : zax l (zat l 1) = 0
  ·have hx:=(zjr he2).1
   rw [if_neg (fun k => k he2)]
   have hG:=fun s => own_gcd (s:=s) (x:=zaj l (zat l 1)) hd
   have hK:=fun s => zke (s:=s) hd hx
   by_cases hg : Nat.gcd (zaj l (zat l 1)) (zaj l 1) = 1
   ·by_cases h1 : zaj l 1 = 1
    ·rw [if_pos (.inl h1)]
     rcases hb34 with hb | hb
     ·exact ziX l A n c w hT h hn hp hb he hk1 he2 hd (decide_eq_true ((hG false).2 hg)) (by rw [hK,(hG false).2 hg,if_pos h1]; decide)
     ·exact zjb l A n c w hT h hn hp hb he hk1 he2 hd (decide_eq_true ((hG true).2 hg)) (by rw [hK,(hG true).2 hg,if_pos h1]; decide)
    ·rw [if_neg (fun h => h.elim h1 (fun h => h hg))]
     rcases hb34 with hb | hb
     ·rw [decide_eq_false (by omega)]; exact ziZ l A n c w hT h hn hp hb he hk1 he2 hd (decide_eq_true ((hG false).2 hg)) (by rw [hK,(hG false).2 hg,if_neg h1]; rfl)
     ·rw [decide_eq_true hb]; exact zfp l A n c w hT h hn hp hb he hk1 he2 hd (decide_eq_true ((hG true).2 hg)) (by rw [hK,(hG true).2 hg,if_neg h1]; rfl)
   ·rw [if_pos (.inr hg)]
    rcases hb34 with hb | hb
    ·exact zfn l A n c w hT h hn hp hb he hk1 he2 hd (decide_eq_false (fun k => hg ((hG false).1 k)))
    ·exact zja l A n c w hT h hn hp hb he hk1 he2 hd (decide_eq_false (fun k => hg ((hG true).1 k)))
  ·rw [if_pos he2]
   rcases hb34 with hb | hb
   ·exact zfo l A n c w hT h hn hp hb he hk1 he2
   ·exact zjd l A n c w hT h hn hp hb he hk1 he2
 ·rw [if_pos he]
  rcases hb34 with hb | hb
  ·exact ziY l A n c w hT h hn hp hb he
  ·exact zjc l A n c w hT h hn hp hb he
theorem zkd {w : World} {x : Nat} {A : oA9} {n c : Nat} (h : zai w x A n c) : Sz n x:=by
 have h1:=zaU (b:=65536) (by decide) x
 rw [← h.len] at h1
 exact Nat.lt_of_lt_of_le h1 (Nat.pow_le_pow_left (by decide) n)
theorem zpU (r : Rat) (b : Bool) (A : oA9) (n c : Nat) (E : oA9) (u v : Nat) (w : World) (h : zde w r b A n c E u v) (hn : n ≤ 1048576) (hu : u ≤ 1048576) :
  Calls Tryz.prog 17 #[.agg #[.bool b,.slice A n c,.slice E u v]] w fun e w' => e = .returned (.string (zau (zcg r))) ∧ Below w.heap.size w w':=by
 obtain ⟨bx1,bx2,bz⟩:=zaz w 40 #[.bool b,.slice A n c,.slice E u v]
 have hB:=bx1
 have kq:=bx2
 obtain ⟨g1,e1,i1⟩:=kq.c3
 have hl1:=zdU (zkd h.1.2)
 have hl2:=zdU (zkd h.2)
 have HT1:=lh9 (fun w' (hb : Below w.heap.size w w') => zkw r.num.natAbs A n c w' (h.1.2.below hb) hn)
 have HT2:=lh9 (fun w' (hb : Below w.heap.size w w') => zkw r.den E u v w' (h.2.below hb) hu)
 obtain ⟨o,ho⟩ : ∃ o,decide (r.den = 1) = o:=⟨_,rfl⟩
 have HON:=lh9 (fun w' (hb : Below w.heap.size w w') => zfu E u v w' (h.2.below hb) (by omega) ho)
 have HI : Hid (zau (zbn r.num) = bif b then { data:=#[45] } ++ zau (zbf r.num.natAbs) else zau (zbf r.num.natAbs)):=by
  show _ = _
  rw [h.1.1]
  unfold zbn
  by_cases hz : r.num < 0
  ·rw [if_pos hz,decide_eq_true hz]
   show zau ([45] ++ zbf r.num.natAbs) = _
   rw [← zjp]; rfl
  ·rw [if_neg hz,decide_eq_false hz]; rfl
 have H1 : Hid (o = true → zau (zcg r) = zau (zbn r.num)):=fun h => zkC (of_decide_eq_true (ho.trans h))
 have H2 : Hid (o = false → zau (zcg r) = (zau (zbn r.num) ++ { data:=#[47] }) ++ zau (zbf r.den)):=fun h => zjt (of_decide_eq_false (ho.trans h))
 have hz1 : (zau (zbn r.num)).size ≤ 67108866:=by
  rw [HI.out]
  have e45 : ({ data:=#[45] } : ByteArray).size = 1:=rfl
  cases b
  ·rw [cond_false,zay]; omega
  ·rw [cond_true,ByteArray.size_append,zay,e45]; omega
 have hz2 : (zau (zbf r.den)).size ≤ 67108866:=by rw [zay]; omega
 have hz0 : (zau (zbf r.num.natAbs)).size ≤ 67108866:=by rw [zay]; omega
 obtain ⟨T1,hT1⟩ : ∃ x,zau (zbf r.num.natAbs) = x:=⟨_,rfl⟩
 obtain ⟨T2,hT2⟩ : ∃ x,zau (zbf r.den) = x:=⟨_,rfl⟩
 obtain ⟨TI,hTI⟩ : ∃ x,zau (zbn r.num) = x:=⟨_,rfl⟩
 obtain ⟨TQ,hTQ⟩ : ∃ x,zau (zcg r) = x:=⟨_,rfl⟩
 rw [hT1] at HT1 HI hz0
 rw [hT2] at HT2 H2 hz2
 rw [hTI] at HI H1 H2 hz1
 rw [hTQ] at H1 H2 ⊢
 have zc : ({ data:=#[47] } : ByteArray).size = 1:=rfl
 have zd : ({ data:=#[45] } : ByteArray).size = 1:=rfl
 have a0 : ∀ w' : World,(Op.stringOp .add ({ data:=#[45] } : ByteArray) T1).run Tryz.prog w' = .ok (.string ({ data:=#[45] } ++ T1)) w':=fun w' => run_string_add_sum w' _ _ (by omega)
 have a1 : ∀ w' : World,(Op.stringOp .add TI ({ data:=#[47] } : ByteArray)).run Tryz.prog w' = .ok (.string (TI ++ { data:=#[47] })) w':=fun w' => run_string_add_sum w' _ _ (by omega)
 obtain ⟨U,hU⟩ : ∃ x,TI ++ ({ data:=#[47] } : ByteArray) = x:=⟨_,rfl⟩
 obtain ⟨M,hM⟩ : ∃ x,({ data:=#[45] } : ByteArray) ++ T1 = x:=⟨_,rfl⟩
 have z3 : U.size ≤ 67108867:=by rw [← hU,ByteArray.size_append]; omega
 rw [hU] at a1 H2
 rw [hM] at a0 HI
 have a2 : ∀ w' : World,(Op.stringOp .add U T2).run Tryz.prog w' = .ok (.string (U ++ T2)) w':=fun w' => run_string_add_sum w' _ _ (by omega)
 obtain ⟨V,hV⟩ : ∃ x,U ++ T2 = x:=⟨_,rfl⟩
 rw [hV] at a2 H2
 clear h hn hu hl1 hl2 ho hz0 hz1 hz2 hT1 hT2 hTI hTQ hU hM hV z3 zc zd bx1 bx2 bz
 go_enter Tryz.func17,Tryz.ntmps17
 go_wp2_with fail
 refine (HT1.out _ hB).mono ?_
 rintro e w1 ⟨rfl,hb⟩
 have hB:=zac hB hb
 have kq:=zae hb kq
 clear hb HT1 g1 e1 i1
 obtain ⟨g1,e1,i1⟩:=kq.c3
 go_upto_if 10 with fail
 go_cut [3,11,12] (fun s3 _ _ wx => s3 = .string TI ∧ wx = w1)
 case first =>
  have hi:=HI.out
  cases b
  ·go_wp2
   go_meet
   exact ⟨by rw [hi]; rfl,rfl⟩
  ·go_wp2
   go_meet
   exact ⟨by rw [hi]; rfl,rfl⟩
 case rest =>
 obtain ⟨rfl,hwc⟩:=hcut
 subst hwc
 clear HI a0
 go_wp2_with fail
 refine (HON.out _ hB).mono ?_
 rintro e w2 ⟨rfl,hw2⟩
 subst hw2
 clear HON
 cases o with
 | true =>
   have e9:=H1.out rfl
   subst e9
   clear HT2 H2 H1
   go_wp2
   go_ret
   exact ⟨rfl,hB⟩
 | false =>
   have e9:=H2.out rfl
   subst e9
   clear H2 H1
   go_wp2_with fail
   refine (HT2.out _ hB).mono ?_
   rintro e w3 ⟨rfl,hb⟩
   have hB:=zac hB hb
   clear HT2 hb g1 e1 i1 kq
   go_wp2
   go_ret
   exact ⟨rfl,hB⟩
theorem szh9 {K n x c : Nat} {A : oA9} {w : World} (h : Sz K x) (k : zai w x A n c) (e : 4 * K ≤ 1048576) : n ≤ 1048576:=Nat.le_trans (h.holds' k) e
end Go.Proofs.YtfieheffipfahaaGreatDoor
