/- What this claim leans on. -/
import Derived.Test.YtfieheffipfahaaGreatDoorRJ8Make
import Derived.Test.YtfieheffipfahaaGreatDoorRJ8Ord
import Derived.ChangeMaps5
import Derived.Lib.Bytealg
import Derived.Lib.Slices
import Derived.Lib.Strings
import Derived.Lib.Walk
namespace Go.Proofs.YtfieheffipfahaaGreatDoor
open Go Go.RowKit
open Go.ChangeShapes Go.WideShapes Go.ChangeAt
set_option maxHeartbeats 16000000
set_option linter.unusedVariables false
structure zgn (W : World) (A : oA9) (n c : Nat) (l : List Nat) : Prop where
 reads : zas W W.heap.size 1 A n (zaq .u8 l)
 dgs : Dgs 256 l
 fits : n ≤ c
 small : c ≤ 1048576
theorem arg_bytes {H : Type} {enc : TypeId × Value → H} {P : Program} {W : World} {fuel : Nat} {t e : TypeId} {A : oA9} {n c : Nat} {x : DataW H × List MemPlace} (ht : P.underlying t = some (.slice e)) (he : P.underlying e = some (.int .u8)) (hc : P.cellsOf e = 1)
  (h : DataW.trod enc P W 0 (fun _ => true) true fuel t (Value.slice A n c).cells.toList = some x) (hb : Rows.uptoBulk x.1 ≤ 1048576) : ∃ l,zgn W A n c l:=by
 rcases open_ints ht he hc h with ⟨hcs,_⟩ | ⟨a,len,cap,zs,hcs,_,hl,hm,hz,hx,hcell,hwz⟩
 ·simp [Value.cells] at hcs
  obtain ⟨rfl,rfl,rfl⟩:=hcs
  exact ⟨[],⟨zas.none_,by intro d hd; simp at hd,Nat.le_refl _,by omega⟩⟩
 ·simp [Value.cells] at hcs
  obtain ⟨rfl,rfl,rfl⟩:=hcs
  have hz' : zs.length = c:=by simpa using hz
  subst hx
  have hs:=UA.slice_le (H:=H) (lits .u8 (zs.take n)) (lits .u8 (zs.drop n))
  have hlen : (lits (H:=H) .u8 (zs.take n)).length + (lits (H:=H) .u8 (zs.drop n)).length = c:=by
   simp [lits]; omega
  have hb' : Rows.uptoBulk (DataW.slice (lits (H:=H) .u8 (zs.take n)) (lits (H:=H) .u8 (zs.drop n))) ≤ 1048576:=hb
  refine ⟨(zs.take n).map Int.toNat,⟨?_,?_,hl,?_⟩⟩
  ·refine ⟨by simp [zaq]; omega,fun hn => ⟨a,rfl,?_,fun j u hu => ?_⟩⟩
   ·have h0:=hcell 0 (by omega)
    have:=World.block_lt_of_cell? W _ h0
    rw [zaK] at this
    exact this
   ·have hj : j < n:=by
     have:=(List.getElem?_eq_some_iff.1 hu).1
     simp [zaq] at this; omega
    rw [hcell j (by omega),← hu]
    have hw:=hwz (zs.getD j 0) (by rw [List.getD_eq_getElem?_getD,List.getElem?_eq_getElem (by omega)]; exact List.getElem_mem (by omega))
    have hb0:=bounds_u8 hw
    simp only [zaq,List.getElem?_map,List.getElem?_take,if_pos hj,List.getElem?_eq_getElem (show j < zs.length by omega),Option.map_some,Option.some.injEq,Value.int.injEq,true_and]
    rw [List.getD_eq_getElem?_getD,List.getElem?_eq_getElem (show j < zs.length by omega)] at hb0 ⊢
    simp at hb0 ⊢
    omega
  ·intro d hd
   obtain ⟨z,hz2,rfl⟩:=List.mem_map.1 hd
   have:=bounds_u8 (hwz z (List.mem_of_mem_take hz2))
   omega
  ·omega
end Go.Proofs.YtfieheffipfahaaGreatDoor
namespace Go.Proofs.YtfieheffipfahaaGreatDoor
open Go Go.RowKit
set_option maxHeartbeats 16000000
set_option maxRecDepth 100000
set_option linter.unusedVariables false
set_option linter.unusedSimpArgs false
theorem zpN (z : Int) (baa : Bool) (Baa : oA9) (maa daa : Nat) (w : World) (hT : zam w) (haa : zaE w z baa Baa maa daa) (qaa : maa ≤ 67108864) :
  Calls Tryz.prog 57 #[.agg #[.bool baa,.slice Baa maa daa]] w (zfX w (z : Rat)):=by
 have HIC:=lh9 (zbh (T:=zam))
 have HGC:=lh9 zdW
 have HT:=lh9 (fun w' (hb : Below w.heap.size w w') => hT.on hb)
 have HTB:=HT
 obtain ⟨K,hKe⟩ : ∃ K,67108864 = K:=⟨_,rfl⟩
 have hKK : K ≤ 67108864:=by omega
 have hK0 : 0 < K:=by omega
 have HNaa:=lh9 (fun w' (b : Below w.heap.size w w') => haa.below b)
 have HZaa : Hid (Sz K z.natAbs):=Sz.of_words haa.words (by omega)
 clear haa qaa
 clear hT hKe
 go_enter Tryz.func57,Tryz.ntmps57
 have hB:=Below.refl w.heap.size w
 obtain ⟨bx1,bx2,bx3,bz⟩:=zbD w 31 33 #[.bool baa,.slice Baa maa daa] #[.bool false,.slice none 0 0,.slice none 0 0]
 have hB:=zac hB bx1
 obtain ⟨g1,e1⟩:=bx2.c2
 have k2:=bx3
 clear bx1 bx2 bx3 bz
 go_wp2_with fail
 generalize (w.alloc (.cells #[.bool baa,.slice Baa maa daa] 31)).alloc (.cells #[.bool false,.slice none 0 0,.slice none 0 0] 33) = W1 at *
 have HZ3 : Hid (Sz (K) (z).natAbs):=HZaa.out
 (with_reducible refine (zji (z) baa Baa maa daa _ (HT.out _ hB) (HNaa.out _ hB) (szi HZaa (HNaa.out _ hB))).mono ?_)
 rintro e wc2 ⟨b3,B3,m3,d3,rfl,hw3,hb⟩
 have hB:=zac hB hb
 have g1:=zad hb g1
 have e1:=zad hb e1
 have k2:=zae hb k2
 have HN3:=lh9 hw3
 clear hb hw3
 obtain ⟨sc0,sf0,sc1,sf1,sc2,sf2⟩:=st3 k2 (.bool b3) (.slice B3 m3 d3)
 obtain ⟨r0,r1,r2⟩:=(sn3 k2 (.bool b3) (.slice B3 m3 d3) (.slice none 0 0)).c3
 have HG:=lh9 (gq3 (whole_in HN3.out) k2 hB (by omega))
 go_wp2
 refine bodyPost_ret (v:=.agg #[.bool b3,.slice B3 m3 d3,.slice none 0 0]) (by simp [results,Tryz.results57,go_sem,r0,r1,r2]) rfl ?_
 exact HG.out
end Go.Proofs.YtfieheffipfahaaGreatDoor
namespace Go.Proofs.YtfieheffipfahaaGreatDoor
open Go Go.RowKit
set_option maxHeartbeats 16000000
set_option linter.unusedVariables false
theorem ratC {T : World → Prop} {M : Nat → Prop} (hTT : ∀ w,T w → zam w) (h0 : M 0 → RatG0 T) (h1 : M 1 → RatG1 T) (h2 : M 2 → RatG2 T) : RatC T M where
 g0:=h0
 g1:=h1
 g2:=h2
 new p q b b' A D n m c d w hT hA hD hn hm h0:=zhY p q b A n c b' D m d w (hTT w hT) hA hD hn hm h0
 newNo p q b b' A D n m c d w hT hA hD hn hm h0:=zjj p q b A n c b' D m d w (hTT w hT) hA hD hn hm h0
 of p q w hT h1 h2 h3 h4 h0:=rat_of p q w (hTT w hT) h1 h2 h3 h4 h0
 ofNo p q w hT h1 h2 h0:=zpM p q w (hTT w hT) h1 h2 (by omega) (by omega) h0
 num r b A n c E k f w hT h hf:=zhZ r b A n c E k f w (hTT w hT) h hf
 den r b A n c E k f w hT h hf:=zhX r b A n c E k f w (hTT w hT) h hf
 sign r b A n c E k f w hT h hf:=zdR r b A n c E k f w (hTT w hT) h hf
 zero r b A n c E k f w hT h hf:=zeu r b A n c E k f w (hTT w hT) h hf
 isInt r b A n c E k f w hT h hf:=zbt r b A n c E k f w (hTT w hT) h hf
 bits r b A n c E k f w hT h hf:=rat_bits r b A n c E k f w (hTT w hT) h hf
 same r s b b' A A' n n' c c' E E' k k' f f' w hT h h' hf hf':=znd r s b A n c E k f b' A' n' c' E' k' f' w (hTT w hT) h h' hf hf'
end Go.Proofs.YtfieheffipfahaaGreatDoor
namespace Go.Proofs.YtfieheffipfahaaGreatDoor
open Go Go.RowKit
set_option maxHeartbeats 16000000
set_option linter.unusedVariables false
theorem rat9 : RatC zam (fun _ => False):=ratC (fun _ h => h) (fun h => h.elim) (fun h => h.elim) (fun h => h.elim)
section
variable {P : Program} {ops : Array Oper} {Q : Exit → Act → World → Prop} {a : Act} {w : World}
end
end Go.Proofs.YtfieheffipfahaaGreatDoor
namespace Go.Proofs.YtfieheffipfahaaGreatDoor
open Go Go.RowKit
set_option maxHeartbeats 16000000
set_option maxRecDepth 100000
set_option linter.unusedVariables false
set_option linter.unusedSimpArgs false
theorem one_dg9 {x : Nat} (h : (dg 65536 x).length = 1) : x = (dg 65536 x).getD 0 0:=by
 have e:=zbZ (b:=65536) (by decide) x
 generalize dg 65536 x = D at *
 match D,h with
 | [d],_ => rw [← e]; simp [dv]
theorem ref9_one (x : Nat) (A : oA9) (n c : Nat) (w : World) (h : zai w x A n c) (hn : n ≤ 1099511627776) :
  Calls Tryz.prog 45 #[.slice A n c] w fun e w' => e = .returned (.bool (decide (x = 1))) ∧ w' = w:=by
 have hl:=h.len
 by_cases h1 : n = 1
 ·obtain ⟨ad,rfl,hb,hc⟩:=zbg h.1 (k:=0) (by omega)
  rw [← one_dg9 (by omega),zdG] at hc
  have i1 : ((x : Int) == 1) = decide (x = 1):=by
   by_cases hx : x = 1
   ·subst hx; rfl
   ·rw [decide_eq_false hx,beq_eq_false_iff_ne]; omega
  obtain ⟨t,ht⟩ : ∃ t,decide (x = 1) = t:=⟨_,rfl⟩
  rw [ht] at i1 ⊢
  have i0 : ((n : Int) == 1) = true:=by rw [beq_iff_eq]; omega
  have i3 : (0 : Int) < (n : Int):=by omega
  clear h hl h1 hb ht
  go_enter Tryz.func45,Tryz.ntmps45
  go_wp2
  go_ret
  exact ⟨rfl,rfl⟩
 ·have hx : x ≠ 1:=fun hx => h1 (by rw [hl,hx]; decide)
  rw [decide_eq_false hx]
  have i0 : ((n : Int) == 1) = false:=by rw [beq_eq_false_iff_ne]; omega
  clear h hl h1 hx
  go_enter Tryz.func45,Tryz.ntmps45
  go_wp2
  go_ret
  exact ⟨rfl,rfl⟩
theorem zfu {x : Nat} {t : Bool} (A : oA9) (n c : Nat) (w : World) (h : zai w x A n c) (hn : n ≤ 1099511627776) (ht : decide (x = 1) = t) :
  Calls Tryz.prog 45 #[.slice A n c] w fun e w' => e = .returned (.bool t) ∧ w' = w:=ht ▸ ref9_one x A n c w h hn
end Go.Proofs.YtfieheffipfahaaGreatDoor
namespace Go.Proofs.YtfieheffipfahaaGreatDoor
open Go Go.RowKit
set_option maxHeartbeats 16000000
set_option maxRecDepth 100000
set_option linter.unusedVariables false
set_option linter.unusedSimpArgs false
def zcY (w : World) (x k : Nat) (er : Int) (e : Ending) (w' : World) : Prop:=∃ (A : oA9) (n c : Nat),e = .returned (.tuple #[.slice A n c,.int .i64 (k : Int),.int .i64 er]) ∧ (er = 0 → zai w' x A n c) ∧ Below w.heap.size w w'
theorem zcY.no {w : World} {er x : Int} {k : Nat} (h : er ≠ 0) (hx : x = er) (w' : World) (hb : Below w.heap.size w w') : zcY w k 0 er (.returned (.tuple #[.slice none 0 0,.int .i64 0,.int .i64 x])) w':=⟨_,_,_,by rw [hx]; rfl,fun e => absurd e h,hb⟩
theorem zhR (l : List Nat) (k : Nat) (A : oA9) (n c : Nat) (w : World) (h : zaB w l A n c) (hn : n ≤ 2147483648) (hk : k ≤ 4294967296) (he : n ≤ k + l.getD k 0) :
  Calls Tryz.prog 52 #[.slice A n c,.int .i64 (k : Int)] w (zcY w 0 0 90):=by
 have HG:=lh9 (zcY.no (w:=w) (k:=0) (er:=90) (by decide) rfl w (Below.refl _ w))
 have hd : l.getD k 0 < 256:=h.2.1.getD (by decide) k
 by_cases h1 : n ≤ k
 ·have i1 : (n : Int) ≤ (k : Int):=by omega
  have i2 : decide ((n : Int) ≤ (k : Int)) = true:=by simp; omega
  clear h he hd
  go_enter Tryz.func52,Tryz.ntmps52
  go_wp2
  refine bodyPost_ret (v:=.tuple #[.slice none 0 0,.int .i64 0,.int .i64 90]) (by simp [results,Tryz.results52,go_sem]) rfl ?_
  exact HG.out
 ·obtain ⟨ad,rfl,hadb,hc⟩:=zbg h.1 (k:=k) (by omega)
  obtain ⟨d,hdd⟩ : ∃ d,l.getD k 0 = d:=⟨_,rfl⟩
  rw [hdd] at hc he hd
  have i1 : ¬ ((n : Int) ≤ (k : Int)):=by omega
  have i2 : decide ((n : Int) ≤ (k : Int)) = false:=by simp; omega
  have i3 : (k : Int) < (n : Int):=by omega
  have i4 : IntKind.i64.wrap (d : Int) = (d : Int):=IntWalk.i64_in _ (by omega)
  have i5 : IntKind.i64.wrap ((n : Int) - (k : Int)) = (n : Int) - (k : Int):=IntWalk.i64_in _ (by omega)
  have i6 : IntKind.i64.wrap ((n : Int) - (k : Int) - 1) = (n : Int) - (k : Int) - 1:=IntWalk.i64_in _ (by omega)
  have i7 : (n : Int) - (k : Int) - 1 < (d : Int):=by omega
  have i8 : (0 : Int) ≤ (k : Int):=by omega
  clear h he hd hdd h1
  go_enter Tryz.func52,Tryz.ntmps52
  go_wp2
  refine bodyPost_ret (v:=.tuple #[.slice none 0 0,.int .i64 0,.int .i64 90]) (by simp [results,Tryz.results52,go_sem]) rfl ?_
  exact HG.out
theorem zeM (t z : Bool) (l : List Nat) (k : Nat) (A : oA9) (n c : Nat) (w : World) (h : zaB w l A n c) (hn : n ≤ 2147483648) (he : k + l.getD k 0 < n) (ht : zbi (zce l k) = t) (hz : t = true → decide (zcE (zce l k) = 0) = z) :
  Calls Tryz.prog 52 #[.slice A n c,.int .i64 (k : Int)] w (if t = true ∧ z = false then zcY w (zaj l k) (1 + l.getD k 0) 0 else zcY w 0 0 91):=by
 have hd : l.getD k 0 < 256:=h.2.1.getD (by decide) k
 obtain ⟨ad,eA,hadb,hc⟩:=zbg h.1 (k:=k) (by omega)
 obtain ⟨A1,hs1,hm1⟩:=zjS (n:=n) (c:=c) (k:=k + 1) (m:=k + 1 + l.getD k 0) A (by omega) (by omega) h.2.2.1
 subst eA
 have hme : (l.drop (k + 1)).take (k + 1 + l.getD k 0 - (k + 1)) = zce l k:=by unfold zce; rw [show k + 1 + l.getD k 0 - (k + 1) = l.getD k 0 by omega]
 have HP:=lh9 (zot (zce l k) A1 (k + 1 + l.getD k 0 - (k + 1)) (c - (k + 1)) w (hme ▸ (hm1 w l h).1) (hme ▸ (hm1 w l h).2.1) (by omega))
 unfold zaj
 obtain ⟨d,hdd⟩ : ∃ d,l.getD k 0 = d:=⟨_,rfl⟩
 obtain ⟨V,hV⟩ : ∃ x,zcE (zce l k) = x:=⟨_,rfl⟩
 rw [hdd] at hc he hd hs1 HP
 rw [ht,hV] at HP
 rw [hV] at hz
 rw [hdd,hV]
 obtain ⟨C,hC⟩ : ∃ x,c - (k + 1) = x:=⟨_,rfl⟩
 rw [show k + 1 + d - (k + 1) = d by omega,hC] at hs1 HP
 have hs2 : ∀ w,(Instr.slice 42 (.slice (some ad) n c) (some (.int .i64 ((k : Int) + 1))) (some (.int .i64 ((k : Int) + 1 + (d : Int)))) none).run Tryz.prog w = .ok (.slice A1 d C) w:=fun w => by
  have h9:=hs1 w
  rw [show ((k + 1 + d : Nat) : Int) = (k : Int) + 1 + (d : Int) by omega,show ((k + 1 : Nat) : Int) = (k : Int) + 1 by omega] at h9
  exact h9
 clear hs1 hm1 hme
 have i1 : ¬ ((n : Int) ≤ (k : Int)):=by omega
 have i2 : decide ((n : Int) ≤ (k : Int)) = false:=by simp; omega
 have i3 : (k : Int) < (n : Int):=by omega
 have i4 : IntKind.i64.wrap (d : Int) = (d : Int):=IntWalk.i64_in _ (by omega)
 have i5 : IntKind.i64.wrap ((n : Int) - (k : Int)) = (n : Int) - (k : Int):=IntWalk.i64_in _ (by omega)
 have i6 : IntKind.i64.wrap ((n : Int) - (k : Int) - 1) = (n : Int) - (k : Int) - 1:=IntWalk.i64_in _ (by omega)
 have i7 : ¬ ((n : Int) - (k : Int) - 1 < (d : Int)):=by omega
 have i8 : (0 : Int) ≤ (k : Int):=by omega
 have i9 : IntKind.i64.wrap ((k : Int) + 1) = (k : Int) + 1:=IntWalk.i64_in _ (by omega)
 have ia : IntKind.i64.wrap ((k : Int) + 1 + (d : Int)) = (k : Int) + 1 + (d : Int):=IntWalk.i64_in _ (by omega)
 have ib : IntKind.i64.wrap ((d : Int) + 1) = (d : Int) + 1:=IntWalk.i64_in _ (by omega)
 clear h he hd hdd hV ht hC hadb
 cases t with
 | false =>
   clear hz
   rw [if_neg (by simp)]
   go_enter Tryz.func52,Tryz.ntmps52
   go_wp2_with fail
   refine HP.out.mono ?_
   rintro e w1 ⟨A2,n2,c2,rfl,hw2,hb⟩
   have HG:=lh9 (zcY.no (w:=w) (k:=0) (er:=91) (by decide) rfl w1 hb)
   clear hw2 hb HP
   go_wp2
   refine bodyPost_ret (v:=.tuple #[.slice none 0 0,.int .i64 0,.int .i64 91]) (by simp [results,Tryz.results52,go_sem]) rfl ?_
   exact HG.out
 | true =>
   have hz2:=hz rfl
   rw [if_pos rfl] at HP
   cases z with
   | true =>
     rw [if_neg (by simp)]
     go_enter Tryz.func52,Tryz.ntmps52
     go_wp2_with fail
     refine HP.out.mono ?_
     rintro e w1 ⟨A2,n2,c2,rfl,hw2,hb⟩
     have HG:=lh9 (zcY.no (w:=w) (k:=0) (er:=91) (by decide) rfl w1 hb)
     have j0 : ((n2 : Int) == 0) = true:=by have:=zen hw2 (of_decide_eq_true hz2); rw [beq_iff_eq]; omega
     clear hw2 hb HP hz hz2
     go_wp2
     refine bodyPost_ret (v:=.tuple #[.slice none 0 0,.int .i64 0,.int .i64 91]) (by simp [results,Tryz.results52,go_sem]) rfl ?_
     exact HG.out
   | false =>
     rw [if_pos ⟨rfl,rfl⟩]
     go_enter Tryz.func52,Tryz.ntmps52
     go_wp2_with fail
     refine HP.out.mono ?_
     rintro e w1 ⟨A2,n2,c2,rfl,hw2,hb⟩
     have HG : Hid (zcY w V (1 + d) 0 (.returned (.tuple #[.slice A2 n2 c2,.int .i64 ((d : Int) + 1),.int .i64 0])) w1):=⟨_,_,_,by rw [show ((1 + d : Nat) : Int) = (d : Int) + 1 by omega],fun _ => hw2,hb⟩
     have j0 : ((n2 : Int) == 0) = false:=by have:=zfG hw2 (of_decide_eq_false hz2); rw [beq_eq_false_iff_ne]; omega
     clear hw2 hb HP hz hz2
     go_wp2
     refine bodyPost_ret (v:=.tuple #[.slice A2 n2 c2,.int .i64 ((d : Int) + 1),.int .i64 0]) (by simp [results,Tryz.results52,go_sem]) rfl ?_
     exact HG.out
theorem zfV (l : List Nat) (k : Nat) (kz : Int) (A : oA9) (n c : Nat) (w : World) (h : zaB w l A n c) (hn : n ≤ 2147483648) (he : zax l k = 0) (hz : kz = (k : Int)) :
  Calls Tryz.prog 52 #[.slice A n c,.int .i64 kz] w (zcY w (zaj l k) (1 + l.getD k 0) 0):=by
 subst hz
 have hl:=h.len
 unfold zax at he
 by_cases h1 : l.length ≤ k + l.getD k 0
 ·rw [if_pos h1] at he; cases he
 ·rw [if_neg h1] at he
  by_cases h2 : zbi (zce l k) = true ∧ zcE (zce l k) ≠ 0
  ·have:=zeM true false l k A n c w h hn (by omega) h2.1 (fun _ => decide_eq_false h2.2)
   rwa [if_pos ⟨rfl,rfl⟩] at this
  ·rw [if_neg h2] at he; cases he
theorem zgO (l : List Nat) (k : Nat) (kz : Int) (A : oA9) (n c : Nat) (w : World) (h : zaB w l A n c) (hn : n ≤ 2147483648) (hk : k ≤ 4294967296) (he : zax l k ≠ 0) (hz : kz = (k : Int)) :
  Calls Tryz.prog 52 #[.slice A n c,.int .i64 kz] w (zcY w 0 0 (zax l k)):=by
 subst hz
 have hl:=h.len
 unfold zax at he ⊢
 by_cases h1 : l.length ≤ k + l.getD k 0
 ·rw [if_pos h1]; exact zhR l k A n c w h hn hk (by omega)
 ·rw [if_neg h1] at he ⊢
  by_cases h2 : zbi (zce l k) = true ∧ zcE (zce l k) ≠ 0
  ·rw [if_pos h2] at he; exact absurd rfl he
  ·rw [if_neg h2]
   by_cases ht : zbi (zce l k) = true
   ·have:=zeM true true l k A n c w h hn (by omega) ht (fun _ => decide_eq_true (Decidable.not_not.1 fun h => h2 ⟨ht,h⟩))
    rwa [if_neg (by simp)] at this
   ·have:=zeM false false l k A n c w h hn (by omega) (by simpa using ht) (fun h => by cases h)
    rwa [if_neg (by simp)] at this
end Go.Proofs.YtfieheffipfahaaGreatDoor
namespace Go.Proofs.YtfieheffipfahaaGreatDoor
open Go Go.RowKit
set_option maxHeartbeats 16000000
set_option maxRecDepth 100000
set_option linter.unusedVariables false
set_option linter.unusedSimpArgs false
theorem zcO {w : World} {g : Nat} (h : Blk w g 3 #[.int .i64 1]) : zai w 1 (some ⟨g,0,none⟩) 1 1:=by
 have e : dg 65536 1 = [1]:=by
  rw [zdZ (by decide) (by decide)]
  rfl
 refine ⟨?_,Nat.le_refl _,by omega⟩
 rw [e]
 refine ⟨rfl,fun _ => ⟨_,rfl,h.lt,fun j u hu => ?_⟩⟩
 match j,hu with
 | 0,hu => simp [zaq] at hu; subst hu; exact h.cell 0
theorem sgI_f (n : Nat) : sgI false n = (n : Int):=by unfold sgI; simp
end Go.Proofs.YtfieheffipfahaaGreatDoor
