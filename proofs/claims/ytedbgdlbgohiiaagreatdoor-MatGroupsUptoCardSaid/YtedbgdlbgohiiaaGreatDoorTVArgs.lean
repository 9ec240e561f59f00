/- What this claim leans on. -/
import Derived.Test.YtedbgdlbgohiiaaGreatDoorTBunZ
namespace Go.Proofs.YtedbgdlbgohiiaaGreatDoor
open Go Go.RowKit
open Go.ChangeShapes Go.WideShapes Go.ChangeAt Go.Deep
set_option maxHeartbeats 16000000
set_option linter.unusedVariables false
def zbS (z : Int) : Prop:=-9223372036854775808 ≤ z ∧ z ≤ 9223372036854775807
theorem zkt {H : Type} {enc : TypeId × Value → H} {P : Program} {W : World} {fuel : Nat} {t : TypeId} {f0 f1 : Field} {c0 c1 : Value} {x : DataW H × List MemPlace}
  (hs : P.underlying t = some (.struct #[f0,f1])) (hf : (f0.offset,P.cellsOf f0.type,f1.offset,P.cellsOf f1.type) = (0,1,1,1)) (h0 : P.underlying f0.type = some (.int .i64)) (h1 : P.underlying f1.type = some (.int .i64))
  (h : DataW.trod enc P W 0 (fun _ => true) true fuel t [c0,c1] = some x) : ∃ p q : Int,c0 = .int .i64 p ∧ c1 = .int .i64 q ∧ zbS p ∧ zbS q:=by
 simp only [Prod.mk.injEq] at hf
 obtain ⟨y0,y1,n,rfl,_,k0,k1⟩:=trod_struct2 hs h
 rw [hf.1,hf.2.1] at k0
 rw [hf.2.2.1,hf.2.2.2] at k1
 simp only [List.drop_zero,List.take_succ_cons,List.take_zero,List.drop_succ_cons] at k0 k1
 obtain ⟨p,hp,_,wp⟩:=DataW.trod_int h0 k0
 obtain ⟨q,hq,_,wq⟩:=DataW.trod_int h1 k1
 simp only [List.cons.injEq,and_true] at hp hq
 have bp:=bounds_i64 wp
 have bq:=bounds_i64 wq
 exact ⟨p,q,hp,hq,⟨by omega,by omega⟩,⟨by omega,by omega⟩⟩
structure zaW (W : World) (A : oA9) (n c : Nat) (L : List (Int × Int)) : Prop where
 len : L.length = n
 fits : n ≤ c
 small : c ≤ 1048576
 ints : ∀ q ∈ L,zbS q.1 ∧ zbS q.2
 row : ∀ r q,L[r]? = some q → ∃ ad,A = some ad ∧ ad.block < W.heap.size ∧ W.cell? (ad.add (r * 2)) = some (.int .i64 q.1) ∧ W.cell? (ad.add (r * 2 + 1)) = some (.int .i64 q.2)
theorem zaW.below {W W' : World} {A : oA9} {n c : Nat} {L : List (Int × Int)} (h : zaW W A n c L) (hb : Below W.heap.size W W') : zaW W' A n c L :=
 ⟨h.len,h.fits,h.small,h.ints,fun r q hr => by
  obtain ⟨ad,e,h1,h2,h3⟩:=h.row r q hr
  exact ⟨ad,e,Nat.lt_of_lt_of_le h1 hb.size,(hb.cell (by rw [zao]; exact h1)).trans h2,(hb.cell (by rw [zao]; exact h1)).trans h3⟩⟩
theorem zlW {H : Type} {enc : TypeId × Value → H} {P : Program} {W : World} {fuel : Nat} {t0 t : TypeId} {f0 f1 : Field} {A : oA9} {n c : Nat} {x : DataW H × List MemPlace}
  (ht : P.underlying t0 = some (.slice t)) (hs : P.underlying t = some (.struct #[f0,f1])) (hf : (f0.offset,P.cellsOf f0.type,f1.offset,P.cellsOf f1.type) = (0,1,1,1)) (hC : P.cellsOf t = 2) (h0 : P.underlying f0.type = some (.int .i64)) (h1 : P.underlying f1.type = some (.int .i64))
  (h : DataW.trod enc P W 0 (fun _ => true) true fuel t0 (Value.slice A n c).cells.toList = some x) (hb : Rows.uptoBulk x.1 ≤ 1048576) : ∃ L,zaW W A n c L:=by
 rcases open_slice ht h with ⟨hcs,_⟩ | ⟨a,len,cap,m,k,D,Pl,hcs,_,hl,hm,hmm,hx,hi⟩
 ·simp [Value.cells] at hcs
  obtain ⟨rfl,rfl,rfl⟩:=hcs
  exact ⟨[],rfl,Nat.le_refl _,by omega,fun q hq => (by cases hq),fun r q hr => by simp at hr⟩
 ·simp [Value.cells] at hcs
  obtain ⟨rfl,rfl,rfl⟩:=hcs
  rw [if_pos rfl] at hmm
  rw [hmm] at hx hi
  subst hx
  have hss:=UA.slice_le (H:=H) ((List.range n).map D) ((List.range (c - n)).map fun j => D (n + j))
  have hb' : Rows.uptoBulk (DataW.slice (H:=H) ((List.range n).map D) ((List.range (c - n)).map fun j => D (n + j))) ≤ 1048576:=hb
  have hcc : c ≤ 1048576:=by
   simp only [List.length_map,List.length_range] at hss
   omega
  have each : ∀ r,r < n → ∃ q : Int × Int,W.cell? (a.add (r * 2)) = some (.int .i64 q.1) ∧ W.cell? (a.add (r * 2 + 1)) = some (.int .i64 q.2) ∧ zbS q.1 ∧ zbS q.2:=fun r hr => by
   obtain ⟨cs,hcl,htr⟩:=hi r (by omega)
   rw [hC] at hcl
   obtain ⟨_,hlen,hat⟩:=World.cells?_some hcl
   obtain ⟨c0,c1,rfl⟩ : ∃ c0 c1,cs = [c0,c1]:=by
    match cs,hlen with
    | [c0,c1],_ => exact ⟨c0,c1,rfl⟩
   obtain ⟨p,q,rfl,rfl,hp,hq⟩:=zkt (x:=(D r,Pl r)) hs hf h0 h1 htr
   have h0:=hat 0 (by decide)
   have h1:=hat 1 (by decide)
   rw [Go.Deep.add_add] at h0 h1
   exact ⟨(p,q),h0,h1,hp,hq⟩
  obtain ⟨f,hf2⟩ : ∃ f : Nat → Int × Int,∀ r,r < n → W.cell? (a.add (r * 2)) = some (.int .i64 (f r).1) ∧ W.cell? (a.add (r * 2 + 1)) = some (.int .i64 (f r).2) ∧ zbS (f r).1 ∧ zbS (f r).2 :=
   ⟨fun r => if hr : r < n then (each r hr).choose else (0,0),fun r hr => by simp only [dif_pos hr]; exact (each r hr).choose_spec⟩
  refine ⟨(List.range n).map f,by simp,hl,hcc,fun q hq => ?_,fun r q hr => ?_⟩
  ·obtain ⟨r,hr,rfl⟩:=List.mem_map.1 hq
   exact (hf2 r (List.mem_range.1 hr)).2.2
  ·have hlt : r < n:=by
    have:=(List.getElem?_eq_some_iff.1 hr).1
    simpa using this
   obtain rfl : f r = q:=by
    rw [List.getElem?_map,List.getElem?_range hlt] at hr
    simpa using hr
   obtain ⟨c0,c1,_⟩:=hf2 r hlt
   refine ⟨a,rfl,?_,c0,c1⟩
   have:=World.block_lt_of_cell? W _ c0
   rw [zao] at this
   exact this
theorem zgD {H : Type} {enc : TypeId × Value → H} {P : Program} {W : World} {fuel : Nat} {t0 t : TypeId} {f0 f1 : Field} {v : Value} {x : DataW H × List MemPlace}
  (ht : P.underlying t0 = some (.slice t)) (hs : P.underlying t = some (.struct #[f0,f1])) (hf : (f0.offset,P.cellsOf f0.type,f1.offset,P.cellsOf f1.type) = (0,1,1,1)) (hC : P.cellsOf t = 2) (h0 : P.underlying f0.type = some (.int .i64)) (h1 : P.underlying f1.type = some (.int .i64))
  (h : DataW.trod enc P W 0 (fun _ => true) true fuel t0 [v] = some x) (hb : Rows.uptoBulk x.1 ≤ 1048576) : ∃ A n c L,v = .slice A n c ∧ zaW W A n c L:=by
 have go : ∀ A n c,[v] = [Value.slice A n c] → ∃ A n c L,v = .slice A n c ∧ zaW W A n c L:=fun A n c e => by
  simp only [List.cons.injEq,and_true] at e
  subst e
  obtain ⟨L,hL⟩:=zlW ht hs hf hC h0 h1 (A:=A) (n:=n) (c:=c) (by simpa [Value.cells] using h) hb
  exact ⟨A,n,c,L,rfl,hL⟩
 rcases open_slice ht h with ⟨hcs,_⟩ | ⟨a,len,cap,m,k,D,Pl,hcs,_⟩
 ·exact go _ _ _ hcs
 ·exact go _ _ _ hcs
structure zaK (W : World) (A : oA9) (n c : Nat) (R : Nat → oA9 × Nat × Nat × List (Int × Int)) : Prop where
 fits : n ≤ c
 small : c ≤ 1048576
 row : ∀ r,r < n → ∃ ad,A = some ad ∧ ad.block < W.heap.size ∧ W.cell? (ad.add r) = some (.slice (R r).1 (R r).2.1 (R r).2.2.1) ∧ zaW W (R r).1 (R r).2.1 (R r).2.2.1 (R r).2.2.2
theorem zhA {H : Type} {enc : TypeId × Value → H} {P : Program} {W : World} {fuel : Nat} {t9 t0 t : TypeId} {f0 f1 : Field} {A : oA9} {n c : Nat} {x : DataW H × List MemPlace}
  (ht9 : P.underlying t9 = some (.slice t0)) (hC9 : P.cellsOf t0 = 1) (ht : P.underlying t0 = some (.slice t)) (hs : P.underlying t = some (.struct #[f0,f1])) (hf : (f0.offset,P.cellsOf f0.type,f1.offset,P.cellsOf f1.type) = (0,1,1,1)) (hC : P.cellsOf t = 2) (h0 : P.underlying f0.type = some (.int .i64)) (h1 : P.underlying f1.type = some (.int .i64))
  (h : DataW.trod enc P W 0 (fun _ => true) true fuel t9 (Value.slice A n c).cells.toList = some x) (hb : Rows.uptoBulk x.1 ≤ 1048576) : ∃ R,zaK W A n c R:=by
 rcases open_slice ht9 h with ⟨hcs,_⟩ | ⟨a,len,cap,m,k,D,Pl,hcs,_,hl,hm,hmm,hx,hi⟩
 ·simp [Value.cells] at hcs
  obtain ⟨rfl,rfl,rfl⟩:=hcs
  exact ⟨fun _ => (none,0,0,[]),Nat.le_refl _,by omega,fun r hr => by omega⟩
 ·simp [Value.cells] at hcs
  obtain ⟨rfl,rfl,rfl⟩:=hcs
  rw [if_pos rfl] at hmm
  rw [hmm] at hx hi
  subst hx
  have hss:=UA.slice_le (H:=H) ((List.range n).map D) ((List.range (c - n)).map fun j => D (n + j))
  have hb' : Rows.uptoBulk (DataW.slice (H:=H) ((List.range n).map D) ((List.range (c - n)).map fun j => D (n + j))) ≤ 1048576:=hb
  have hcc : c ≤ 1048576:=by
   simp only [List.length_map,List.length_range] at hss
   omega
  have each : ∀ r,r < n → ∃ q : oA9 × Nat × Nat × List (Int × Int),W.cell? (a.add r) = some (.slice q.1 q.2.1 q.2.2.1) ∧ zaW W q.1 q.2.1 q.2.2.1 q.2.2.2:=fun r hr => by
   obtain ⟨cs,hcl,htr⟩:=hi r (by omega)
   rw [hC9] at hcl
   obtain ⟨_,hlen,hat⟩:=World.cells?_some hcl
   obtain ⟨c0,rfl⟩ : ∃ c0,cs = [c0]:=by
    match cs,hlen with
    | [c0],_ => exact ⟨c0,rfl⟩
   have hD : Rows.uptoBulk (D r) ≤ 1048576:=by
    have hm1 : D r ∈ (List.range n).map D:=List.mem_map.2 ⟨r,List.mem_range.2 hr,rfl⟩
    have hm2:=UA.mem_le hm1
    simp only [Rows.uptoBulk] at hb'
    omega
   obtain ⟨A',n',c',L,rfl,hL⟩:=zgD (x:=(D r,Pl r)) ht hs hf hC h0 h1 htr hD
   have h0:=hat 0 (by decide)
   rw [Go.Deep.add_add,Nat.mul_one,Nat.add_zero] at h0
   exact ⟨(A',n',c',L),h0,hL⟩
  refine ⟨fun r => if hr : r < n then (each r hr).choose else (none,0,0,[]),hl,hcc,fun r hr => ⟨a,rfl,?_,?_⟩⟩
  ·have:=World.block_lt_of_cell? W _ (each r hr).choose_spec.1
   rw [zao] at this
   exact this
  ·simp only [dif_pos hr]
   exact (each r hr).choose_spec
theorem zaW.take {W : World} {A : oA9} {n c N : Nat} {L : List (Int × Int)} (h : zaW W A n c L) (hN : N ≤ n) : zaW W A N c (L.take N):=by
 have hl:=h.len
 have hf:=h.fits
 refine ⟨by rw [List.length_take]; omega,by omega,h.small,fun q hq => h.ints q (List.mem_of_mem_take hq),fun r q hr => ?_⟩
 rw [List.getElem?_take] at hr
 split at hr
 ·exact h.row r q hr
 ·cases hr
end Go.Proofs.YtedbgdlbgohiiaaGreatDoor
namespace Go.Proofs.YtedbgdlbgohiiaaGreatDoor
open Go Go.RowKit
set_option maxHeartbeats 16000000
set_option maxRecDepth 100000
set_option linter.unusedVariables false
set_option linter.unusedSimpArgs false
theorem zhg (z : Int) (baa : Bool) (Baa : oA9) (maa daa : Nat) (w : World) (hT : zak w) (haa : zaB w z baa Baa maa daa) (qaa : maa ≤ 268435456) :
  Calls Tryz.prog 104 #[.agg #[.bool baa,.slice Baa maa daa]] w (zaR w z):=by
 have HIC:=lh9 (zbC (T:=zak))
 have HGC:=lh9 zbI
 have HT:=lh9 (fun w' (hb : Below w.heap.size w w') => hT.on hb)
 have HTB:=HT
 obtain ⟨K,hKe⟩ : ∃ K,268435456 = K:=⟨_,rfl⟩
 have hKK : K ≤ 268435456:=by omega
 have hK0 : 0 < K:=by omega
 have HV:=lh9 (zmR z)
 obtain ⟨sb,hsb⟩ : ∃ s,decide (z < 0) = s:=⟨_,rfl⟩
 rw [hsb] at HV
 have HSB:=lh9 hsb
 clear hsb
 have HNaa:=lh9 (fun w' (b : Below w.heap.size w w') => haa.below b)
 have HZaa : Hid (Sz K z.natAbs):=Sz.of_words haa.words (by omega)
 clear haa qaa
 clear hT hKe
 go_enter Tryz.func104,Tryz.ntmps104
 have hB:=Below.refl w.heap.size w
 obtain ⟨bx1,bx2,bx3,bz⟩:=zbs w 46 46 #[.bool baa,.slice Baa maa daa] #[.bool false,.slice none 0 0]
 have hB:=zaa hB bx1
 obtain ⟨g1,e1⟩:=bx2.c2
 have k2:=bx3
 clear bx1 bx2 bx3 bz
 go_wp2_with fail
 generalize (w.alloc (.cells #[.bool baa,.slice Baa maa daa] 46)).alloc (.cells #[.bool false,.slice none 0 0] 46) = W1 at *
 have C0:=lh9 (fun w' (h : Below W1.heap.size W1 w') => zaw (HSB.out) (HIC.out.belowI (z) baa Baa maa daa w' (HT.out _ (zaa hB h)) (HNaa.out _ (zaa hB h)) (szi HZaa (HNaa.out _ hB))))
 have HZ3 : Hid (Sz (K) (z.natAbs)):=HZaa.out
 have C1:=lh9 (fun w' (h : Below W1.heap.size W1 w') => HIC.out.abs (z) baa Baa maa daa w' (HT.out _ (zaa hB h)) (HNaa.out _ (zaa hB h)) (szi HZaa (HNaa.out _ hB)))
 have HZ4 : Hid (Sz (K) (zaS sb z.natAbs).natAbs):=(by rw [zdb]; exact HZ3.out)
 have C2:=lh9 (fun w' (h : Below W1.heap.size W1 w') B3 m3 d3 (hw3 : zad w' (z.natAbs) B3 m3 d3) => HIC.out.new sb (z.natAbs) B3 m3 d3 w' (HT.out _ (zaa hB h)) hw3 (szw HZ3 hw3))
 have hBw:=(Below.refl W1.heap.size W1).drew
 refine rg (csc g1 (csc e1 csn)) (fun hHeld => ?_)
 refine tk 0 ?_
 refine tk 2 ?_
 refine rc 1 (fun K hK => ?_)
 go_simp
 go_at_call 124; (with_reducible refine (C0.out _ hBw).mono ?_); rintro e wa2 ⟨rfl,hb⟩; have hBw:=zaa hBw hb; refine hK.out _ _ (Cs.below hHeld hb) (fun hHeld => ?_); clear hK K hb
 try simp only [sb9]
 refine rc 3 (fun K hK => ?_)
 go_simp
 go_at_call 118; (with_reducible refine (C1.out _ hBw).mono ?_); rintro e wa3 ⟨B3,m3,d3,rfl,hw3,hb⟩; have hBw:=zaa hBw hb; refine hK.out _ _ (Cs.below hHeld hb) (fun hHeld => ?_); clear hK K hb
 try simp only [sb9]
 refine rc 4 (fun K hK => ?_)
 go_simp
 go_at_call 130; (with_reducible refine (C2.out _ hBw _ _ _ hw3).mono ?_); rintro e wa4 ⟨b4,B4,m4,d4,rfl,hw4,hb⟩; have hBw:=zaa hBw hb; have hw3:=hw3.below hb; refine hK.out _ _ (Cs.below hHeld hb) (fun hHeld => ?_); clear hK K hb
 try simp only [sb9]
 obtain ⟨sc0,sf0,sc1,sf1⟩:=st2 (zac hBw k2) (.bool b4)
 refine rc 5 (fun K hK => ?_)
 go_simp
 refine hK.out _ _ (cs2 (.bool b4) (.slice B4 m4 d4) hHeld) (fun hHeld => ?_); clear hK K
 try simp only [sb9]
 refine rdn ?_
 have hB:=zaa hB hBw
 have g1:=zab hBw g1
 have e1:=zab hBw e1
 have k2:=zac hBw k2
 have HN3:=lh9 hw3
 have HN4:=lh9 hw4
 clear hBw hHeld hw3 hw4 C0 C1 C2
 obtain ⟨r0,r1⟩:=(sn2 k2 (.bool b4) (.slice B4 m4 d4)).c2
 have HG:=lh9 (gi2 (zaB.to8 HV.out HN4.out) k2 hB (by omega))
 go_wp2
 refine bodyPost_ret (v:=.agg #[.bool b4,.slice B4 m4 d4]) (by simp [results,Tryz.results104,go_sem,r0,r1]) rfl ?_
 exact HG.out
theorem zey (z : Int) (k : Nat) (baa : Bool) (Baa : oA9) (maa daa : Nat) (Bab : oA9) (mab dab : Nat) (w : World) (hT : zak w) (haa : zaB w z baa Baa maa daa) (hab : zad w k Bab mab dab) (qaa : maa ≤ 134217728) (qab : mab ≤ 134217728) :
  Calls Tryz.prog 148 #[.agg #[.bool baa,.slice Baa maa daa],.agg #[.slice Bab mab dab]] w (zaR w (z * ((k : Nat) : Int))):=by
 have HIC:=lh9 (zbC (T:=zak))
 have HGC:=lh9 zbI
 have HT:=lh9 (fun w' (hb : Below w.heap.size w w') => hT.on hb)
 have HTB:=HT
 obtain ⟨K,hKe⟩ : ∃ K,134217728 = K:=⟨_,rfl⟩
 have hKK : K ≤ 134217728:=by omega
 have hK0 : 0 < K:=by omega
 have HNaa:=lh9 (fun w' (b : Below w.heap.size w w') => haa.below b)
 have HZaa : Hid (Sz K z.natAbs):=Sz.of_words haa.words (by omega)
 clear haa qaa
 have HNab:=lh9 (fun w' (b : Below w.heap.size w w') => hab.below b)
 have HZab : Hid (Sz K k):=Sz.of_words hab (by omega)
 clear hab qab
 clear hT hKe
 go_enter Tryz.func148,Tryz.ntmps148
 have hB:=Below.refl w.heap.size w
 obtain ⟨bx1,bx2,bx3,bx4,bz⟩:=zbd w 46 44 46 #[.bool baa,.slice Baa maa daa] #[.slice Bab mab dab] #[.bool false,.slice none 0 0]
 have hB:=zaa hB bx1
 obtain ⟨g1,e1⟩:=bx2.c2
 have g2:=bx3.c1
 have k3:=bx4
 clear bx1 bx2 bx3 bx4 bz
 go_wp2_with fail
 generalize ((w.alloc (.cells #[.bool baa,.slice Baa maa daa] 46)).alloc (.cells #[.slice Bab mab dab] 44)).alloc (.cells #[.bool false,.slice none 0 0] 46) = W1 at *
 have HZ4 : Hid (Sz (K) (((k : Nat) : Int)).natAbs):=(by rw [Int.natAbs_natCast]; exact HZab.out)
 have C0:=lh9 (fun w' (h : Below W1.heap.size W1 w') => inew_pos HIC.out (k) Bab mab dab w' (HT.out _ (zaa hB h)) (HNab.out _ (zaa hB h)) (szw HZab (HNab.out _ hB)))
 have HZ5 : Hid (Sz (K + K) (z * (((k : Nat) : Int))).natAbs):=SzI.mul HZaa.out HZ4.out
 have C1:=lh9 (fun w' (h : Below W1.heap.size W1 w') b4 B4 m4 d4 (hw4 : zaB w' (((k : Nat) : Int)) b4 B4 m4 d4) => HIC.out.mul (z) (((k : Nat) : Int)) baa b4 Baa B4 maa m4 daa d4 w' (HT.out _ (zaa hB h)) (HNaa.out _ (zaa hB h)) hw4 (szi HZaa (HNaa.out _ hB)) (szi HZ4 hw4))
 have hBw:=(Below.refl W1.heap.size W1).drew
 refine rg (csc g1 (csc e1 (csc g2 csn))) (fun hHeld => ?_)
 refine tk 0 ?_
 refine tk 1 ?_
 refine rc 2 (fun K hK => ?_)
 go_simp
 go_at_call 130; (with_reducible refine (C0.out _ hBw).mono ?_); rintro e wa2 ⟨b4,B4,m4,d4,rfl,hw4,hb⟩; have hBw:=zaa hBw hb; refine hK.out _ _ (Cs.below hHeld hb) (fun hHeld => ?_); clear hK K hb
 try simp only [sb9]
 refine rc 3 (fun K hK => ?_)
 go_simp
 go_at_call 156; (with_reducible refine (C1.out _ hBw _ _ _ _ hw4).mono ?_); rintro e wa3 ⟨b5,B5,m5,d5,rfl,hw5,hb⟩; have hBw:=zaa hBw hb; have hw4:=hw4.below hb; refine hK.out _ _ (Cs.below hHeld hb) (fun hHeld => ?_); clear hK K hb
 try simp only [sb9]
 obtain ⟨sc0,sf0,sc1,sf1⟩:=st2 (zac hBw k3) (.bool b5)
 refine rc 4 (fun K hK => ?_)
 go_simp
 refine hK.out _ _ (cs2 (.bool b5) (.slice B5 m5 d5) hHeld) (fun hHeld => ?_); clear hK K
 try simp only [sb9]
 refine rdn ?_
 have hB:=zaa hB hBw
 have g1:=zab hBw g1
 have e1:=zab hBw e1
 have g2:=zab hBw g2
 have k3:=zac hBw k3
 have HN4:=lh9 hw4
 have HN5:=lh9 hw5
 clear hBw hHeld hw4 hw5 C0 C1
 obtain ⟨r0,r1⟩:=(sn2 k3 (.bool b5) (.slice B5 m5 d5)).c2
 have HG:=lh9 (gi2 (HN5.out) k3 hB (by omega))
 go_wp2
 refine bodyPost_ret (v:=.agg #[.bool b5,.slice B5 m5 d5]) (by simp [results,Tryz.results148,go_sem,r0,r1]) rfl ?_
 exact HG.out
theorem zjH (r : Rat) (baa : Bool) (Baa : oA9) (maa daa : Nat) (Eaa : oA9) (uaa vaa : Nat) (w : World) (hT : zak w) (haa : zaj w r baa Baa maa daa Eaa uaa vaa) (qaa : zaP maa uaa) (hd : r.den = 1) :
  Calls Tryz.prog 101 #[.agg #[.bool baa,.slice Baa maa daa,.slice Eaa uaa vaa]] w (fun e w' => e = .returned (.bool true) ∧ Below w.heap.size w w'):=by
 have HIC:=lh9 (zbC (T:=zak))
 have HGC:=lh9 zbI
 have HT:=lh9 (fun w' (hb : Below w.heap.size w w') => hT.on hb)
 have HTB:=HT
 obtain ⟨K,hKe⟩ : ∃ K,67108864 = K:=⟨_,rfl⟩
 have hKK : K ≤ 67108864:=by omega
 have hK0 : 0 < K:=by omega
 have HNaa:=lh9 (fun w' (b : Below w.heap.size w w') => haa.below b)
 obtain ⟨xaa,hxaa,hxwaa⟩:=haa.2
 have HXaa:=lh9 hxaa
 have HZaa : Hid (SzQ K r):=zaI haa qaa hKe
 have HZaap : Hid (Sz K r.num.natAbs):=HZaa.out.num
 have HZaaq : Hid (Sz K xaa):=zat HZaa.out.den hxaa
 have HNaap:=lh9 (fun w' (b : Below w.heap.size w w') => haa.1.below b)
 have HNaaq:=lh9 (fun w' (b : Below w.heap.size w w') => hxwaa.below b)
 clear haa qaa hxaa hxwaa
 have HX0:=lh9 (zeZ HXaa.out hd)
 clear hT hKe hd
 go_enter Tryz.func101,Tryz.ntmps101
 have hB:=Below.refl w.heap.size w
 obtain ⟨bx1,bx2,bz⟩:=zaz w 48 #[.bool baa,.slice Baa maa daa,.slice Eaa uaa vaa]
 have hB:=zaa hB bx1
 obtain ⟨g1,e1,i1⟩:=bx2.c3
 clear bx1 bx2 bz
 go_wp2_with fail
 generalize w.alloc (.cells #[.bool baa,.slice Baa maa daa,.slice Eaa uaa vaa] 48) = W1 at *
 (with_reducible refine (zdc HX0.out (HNaaq.out _ hB)).mono ?_)
 rintro e wc2 ⟨rfl,hb⟩
 have hB:=zaa hB hb
 have g1:=zab hb g1
 have e1:=zab hb e1
 have i1:=zab hb i1
 clear hb 
 go_wp2
 go_ret
 exact ⟨by first | rfl | simp,hB⟩
theorem zjG (r : Rat) (baa : Bool) (Baa : oA9) (maa daa : Nat) (Eaa : oA9) (uaa vaa : Nat) (w : World) (hT : zak w) (haa : zaj w r baa Baa maa daa Eaa uaa vaa) (qaa : zaP maa uaa) (hd : r.den ≠ 1) :
  Calls Tryz.prog 101 #[.agg #[.bool baa,.slice Baa maa daa,.slice Eaa uaa vaa]] w (fun e w' => e = .returned (.bool false) ∧ Below w.heap.size w w'):=by
 have HIC:=lh9 (zbC (T:=zak))
 have HGC:=lh9 zbI
 have HT:=lh9 (fun w' (hb : Below w.heap.size w w') => hT.on hb)
 have HTB:=HT
 obtain ⟨K,hKe⟩ : ∃ K,67108864 = K:=⟨_,rfl⟩
 have hKK : K ≤ 67108864:=by omega
 have hK0 : 0 < K:=by omega
 have HNaa:=lh9 (fun w' (b : Below w.heap.size w w') => haa.below b)
 obtain ⟨xaa,hxaa,hxwaa⟩:=haa.2
 have HXaa:=lh9 hxaa
 have HZaa : Hid (SzQ K r):=zaI haa qaa hKe
 have HZaap : Hid (Sz K r.num.natAbs):=HZaa.out.num
 have HZaaq : Hid (Sz K xaa):=zat HZaa.out.den hxaa
 have HNaap:=lh9 (fun w' (b : Below w.heap.size w w') => haa.1.below b)
 have HNaaq:=lh9 (fun w' (b : Below w.heap.size w w') => hxwaa.below b)
 clear haa qaa hxaa hxwaa
 have HX0:=lh9 (zdk HXaa.out hd).1
 clear hT hKe hd
 go_enter Tryz.func101,Tryz.ntmps101
 have hB:=Below.refl w.heap.size w
 obtain ⟨bx1,bx2,bz⟩:=zaz w 48 #[.bool baa,.slice Baa maa daa,.slice Eaa uaa vaa]
 have hB:=zaa hB bx1
 obtain ⟨g1,e1,i1⟩:=bx2.c3
 clear bx1 bx2 bz
 go_wp2_with fail
 generalize w.alloc (.cells #[.bool baa,.slice Baa maa daa,.slice Eaa uaa vaa] 48) = W1 at *
 (with_reducible refine (zdm HX0.out (HNaaq.out _ hB)).mono ?_)
 rintro e wc2 ⟨rfl,hb⟩
 have hB:=zaa hB hb
 have g1:=zab hb g1
 have e1:=zab hb e1
 have i1:=zab hb i1
 clear hb 
 go_wp2
 go_ret
 exact ⟨by first | rfl | simp,hB⟩
theorem zbc (r : Rat) (baa : Bool) (Baa : oA9) (maa daa : Nat) (Eaa : oA9) (uaa vaa : Nat) (w : World) (hT : zak w) (haa : zaj w r baa Baa maa daa Eaa uaa vaa) (qaa : zaP maa uaa) :
  Calls Tryz.prog 101 #[.agg #[.bool baa,.slice Baa maa daa,.slice Eaa uaa vaa]] w (fun e w' => e = .returned (.bool (decide (r.den = 1))) ∧ Below w.heap.size w w'):=by
 by_cases hd : r.den = 1
 ·rw [decide_eq_true hd]; exact zjH r baa Baa maa daa Eaa uaa vaa w hT haa qaa hd
 ·rw [decide_eq_false hd]; exact zjG r baa Baa maa daa Eaa uaa vaa w hT haa qaa hd
end Go.Proofs.YtedbgdlbgohiiaaGreatDoor
