/- What this claim leans on. -/
import Derived.Test.YtfieheffipfahaaGreatDoorRBunN
namespace Go.Proofs.YtfieheffipfahaaGreatDoor
open Go Go.RowKit
set_option maxHeartbeats 16000000
set_option maxRecDepth 100000
set_option linter.unusedVariables false
theorem zcI (x : Nat) (A : oA9) (n c : Nat) (w : World) (h : zaf w x A n c) (hn : n ≤ 1099511627776) :
  Calls Tryz.prog 75 #[.agg #[.slice A n c]] w (zeZ w n (zaq .u64 (dg 18446744073709551616 x))):=by
 obtain ⟨hr,h1,h2⟩:=h
 have hlen:=hr.len_
 have C : ∀ o,Calls Tryz.prog 78 #[.slice A n c] (w.alloc o) (zeZ w n (zaq .u64 (dg 18446744073709551616 x))):=fun o => by
  have hro:=((hr.alloc (Nat.le_refl _) o).more (B':=(w.alloc o).heap.size) (by simp))
  rcases A with _ | ad
  ·have hn0 : n = 0:=by
    rcases Nat.eq_zero_or_pos n with h | h
    ·exact h
    ·obtain ⟨ad,e,_⟩:=hr.2 h
     cases e
   subst hn0
   have hl : zaq .u64 (dg 18446744073709551616 x) = []:=by rw [List.eq_nil_of_length_eq_zero hlen]; rfl
   rw [hl]
   exact (zjy c _).mono fun e w' ⟨he,hw⟩ => ⟨_,he,World.ownsRow_nil _ _ _ _,by rw [← hw]; exact (Below.refl _ w).alloc (Nat.le_refl _) o⟩
  ·refine (zfU ad n c _ (w.alloc o) hro hn).mono fun e w' ⟨v,he,ho,hb⟩ => ?_
   refine ⟨v,he,⟨ho.1,?_⟩,((Below.refl _ w).alloc (Nat.le_refl _) o).trans (hb.mono (by simp))⟩
   rcases ho.2 with h | ⟨g,cap,cur,e1,e2,e3⟩
   ·exact .inl h
   ·exact .inr ⟨g,cap,cur,e1,Nat.le_trans (by simp) e2,e3⟩
 obtain ⟨L,hL⟩ : ∃ L,zaq .u64 (dg 18446744073709551616 x) = L:=⟨_,rfl⟩
 rw [hL] at C ⊢
 have HC:=lh9 C
 clear C hr hlen hL
 go_enter Tryz.func75,Tryz.ntmps75
 go_wp2_with fail
 refine (HC.out _).mono ?_
 intro e w1 hg
 have G:=lh9 hg
 obtain ⟨v,rfl,_,_⟩:=hg
 go_wp2
 go_ret
 exact G.out
def zav (w : World) (t : TypeId) (g cap n : Nat) (L : List Nat) : Prop :=
 ∃ cur,Blk w g t cur ∧ n ≤ cap ∧ cap ≤ maxLen ∧ cur.size = cap ∧ L.length = n ∧ cur.toList.take n = zaq .u64 L
section
variable {w w' : World} {t : TypeId} {g cap n : Nat} {L : List Nat}
theorem zav.len (h : zav w t g cap n L) : L.length = n:=by obtain ⟨_,_,_,_,_,h,_⟩:=h; exact h
theorem zav.room (h : zav w t g cap n L) : n ≤ cap ∧ cap ≤ maxLen:=by obtain ⟨_,_,h,h2,_⟩:=h; exact ⟨h,h2⟩
theorem zav.lt (h : zav w t g cap n L) : g < w.heap.size:=by obtain ⟨_,h,_⟩:=h; exact h.lt
theorem zcU (k : IntKind) (l : List Nat) (i : Nat) (h : i < l.length) : (zaq k l)[i]? = some (.int k (l.getD i 0 : Nat)):=by
 simp [zaq,List.getD,List.getElem?_eq_getElem h]
theorem zav.cell (h : zav w t g cap n L) (k : Nat) (hk : k < n) : w.cell? ⟨g,k,none⟩ = some (.int .u64 (L.getD k 0 : Nat)):=by
 obtain ⟨cur,hb,h1,h2,h3,h4,h5⟩:=h
 rw [hb.cell k,← Array.getElem?_toList,← zcU .u64 L k (by omega),← h5,List.getElem?_take,if_pos hk]
theorem zav.frozen (h : zav w t g cap n L) (k : Nat) : w.frozen? ⟨g,k,none⟩ = false:=by
 obtain ⟨cur,hb,_⟩:=h
 exact hb.frozen k
theorem zav.set_ (h : zav w t g cap n L) (k d : Nat) (hk : k < n) : zav (w.setCell ⟨g,k,none⟩ (.int .u64 (d : Int))) t g cap n (L.set k d):=by
 obtain ⟨cur,hb,h1,h2,h3,h4,h5⟩:=h
 refine ⟨_,hb.set_ k _,h1,h2,by simpa using h3,by simpa using h4,?_⟩
 rw [Array.toList_setIfInBounds,List.take_set,h5]
 unfold zaq
 rw [List.map_set]
theorem zav.below {B : Nat} (h : zav w t g cap n L) (hb : Below B w w') (hg : g < B) : zav w' t g cap n L:=by
 obtain ⟨cur,h0,h1⟩:=h
 exact ⟨cur,h0.below hb hg,h1⟩
theorem zav.keep (h : zav w t g cap n L) (hb : Below w.heap.size w w') : zav w' t g cap n L:=h.below hb h.lt
theorem zav.drew (h : zav w t g cap n L) : zav w.drew t g cap n L:=h
theorem zav.alloc (h : zav w t g cap n L) (o : Obj) : zav (w.alloc o) t g cap n L:=by
 obtain ⟨cur,h0,h1⟩:=h
 exact ⟨cur,h0.alloc o,h1⟩
theorem zav.far (h : zav w t g cap n L) {p : Addr} (hp : g ≠ p.block) (u : Value) : zav (w.setCell p u) t g cap n L:=by
 obtain ⟨cur,h0,h1⟩:=h
 exact ⟨cur,h0.far hp u,h1⟩
theorem zav.reads (h : zav w t g cap n L) : zas w w.heap.size 1 (some ⟨g,0,none⟩) n (zaq .u64 L):=by
 have hl:=h.lt
 have hc:=h.cell
 have hn:=h.len
 refine ⟨by rw [zaC]; omega,fun _ => ⟨_,rfl,hl,fun j u hu => ?_⟩⟩
 have hj : j < L.length:=by
  rcases Nat.lt_or_ge j L.length with hj | hj
  ·exact hj
  ·rw [List.getElem?_eq_none (by rw [zaC]; exact hj)] at hu; cases hu
 have e : (⟨g,0,none⟩ : Addr).add j = ⟨g,j,none⟩:=by unfold Addr.add; split <;> simp_all
 rw [e,hc j (by omega),← zcU .u64 L j hj,hu]
theorem zav.own (h : zav w t g cap n L) {base : Nat} (hb : base ≤ g) : w.ownsRow base t 1 (.slice (some ⟨g,0,none⟩) n cap) n (zaq .u64 L):=by
 obtain ⟨cur,h0,h1,h2,h3,h4,h5⟩:=h
 exact ⟨by rw [zaC]; omega,.inr ⟨g,cap,cur,rfl,hb,h0,h1,h2,by omega,by rw [Nat.mul_one]; exact h5⟩⟩
theorem zav.made (w : World) (t : TypeId) (N : Nat) (hN : N ≤ maxLen) : zav (w.alloc (.cells (madeCells (Value.cells (.int .u64 0)) N) t)) t w.heap.size N N (List.replicate N 0):=by
 refine ⟨_,Blk.new w t _,Nat.le_refl _,hN,size_madeCells _ _,by simp,?_⟩
 show (madeCells #[Value.int .u64 0] N).toList.take N = _
 rw [toList_madeCells_one,List.take_of_length_le (by simp)]
 simp [zaq]
theorem zav.of_own {base : Nat} {v : Value} {l : List Nat} (h : w.ownsRow base t 1 v n (zaq .u64 l)) (hn : 0 < n) : ∃ g cap,v = .slice (some ⟨g,0,none⟩) n cap ∧ base ≤ g ∧ zav w t g cap n l:=by
 obtain ⟨h1,h2⟩:=h
 rcases h2 with ⟨_,h⟩ | ⟨g,cap,cur,e,hb,hk,a,b,c,d⟩
 ·omega
 ·refine ⟨g,cap,e,hb,cur,hk,a,b,by omega,by rw [zaC] at h1; omega,?_⟩
  rw [Nat.mul_one] at d
  exact d
end
theorem zas.of_grown_own {w : World} {base n : Nat} {t : TypeId} {v : Value} {xs : List Value} (h : w.ownsRow base t 1 v n xs) : ∃ A c,v = .slice A n c ∧ n ≤ c ∧ c ≤ maxLen ∧ zas w w.heap.size 1 A n xs:=by
 have h0:=h
 obtain ⟨h1,h2⟩:=h
 rcases h2 with ⟨e,hn⟩ | ⟨g,cap,cur,e,hb,hk,a,b,c,d⟩
 ·subst hn
  exact ⟨none,0,e,Nat.le_refl _,by unfold maxLen; omega,by subst e; exact zas.of_own h0⟩
 ·exact ⟨_,_,e,a,b,by subst e; exact zas.of_own h0⟩
structure zif (w : World) (A : oA9) (n c : Nat) (xs : List Nat) : Prop where
 len : xs.length = n
 fits : n ≤ c
 most : c ≤ 9223372036854775807
 num : ∀ i,i < n → ∃ (ad : Addr) (B : oA9) (m d : Nat),A = some ad ∧ ad.block < w.heap.size ∧ w.cell? (ad.add i) = some (.slice B m d) ∧ zaf w (xs.getD i 0) B m d
theorem zif.below {w w' : World} {A : oA9} {n c : Nat} {xs : List Nat} (h : zif w A n c xs) (hb : Below w.heap.size w w') : zif w' A n c xs :=
 ⟨h.len,h.fits,h.most,fun i hi => by
  obtain ⟨ad,B,m,d,e,h1,h2,h3⟩:=h.num i hi
  exact ⟨ad,B,m,d,e,Nat.lt_of_lt_of_le h1 hb.size,zad hb h2,h3.below hb⟩⟩
theorem zif.none_ (w : World) : zif w none 0 0 []:=⟨rfl,Nat.le_refl _,by omega,fun i hi => by omega⟩
theorem zeO {w : World} {A : oA9} {n c x : Nat} (h : zaf w x A n c) {p : Addr} (hp : 0 < n → ∀ ad,A = some ad → ad.block ≠ p.block) (u : Value) : zaf (w.setCell p u) x A n c:=by
 by_cases hn : 0 < n
 ·exact zbW h (hp hn) u
 ·exact ⟨⟨h.1.1,fun h0 => absurd h0 hn⟩,h.2⟩
theorem znv {w w' : World} {x : Nat} {B : oA9} {m d : Nat} (h : zaf w x B m d) {row : Option Nat} (hg : w.grownBy w' row) (hr : 0 < m → ∀ ad,B = some ad → some ad.block ≠ row) : zaf w' x B m d:=by
 obtain ⟨hr0,h1,h2⟩:=h
 refine ⟨⟨hr0.1,fun hn => ?_⟩,h1,h2⟩
 obtain ⟨ad,e,hb,hc⟩:=hr0.2 hn
 refine ⟨ad,e,Nat.lt_of_lt_of_le hb hg.size,fun j u hu => ?_⟩
 exact (World.cell?_of_block (hg.block _ (by rw [zaK]; exact hb) (by rw [zaK]; exact hr hn ad e))).trans (hc j u hu)
theorem zlJ {w : World} {A : oA9} {n c x g : Nat} {t : TypeId} {a : oA9} {b d : Nat} (h : zaf w x A n c) (hk : Blk w g t #[.slice a b d]) : 0 < n → ∀ ad,A = some ad → ad.block ≠ g:=fun hn ad e hg => by
 obtain ⟨ad',e',_,hc⟩:=h.1.2 hn
 rw [e] at e'
 injection e' with e'
 subst e'
 have hl:=h.len
 have h0:=hc 0 (.int .u64 ((dg 18446744073709551616 x).getD 0 0 : Nat)) (zcU .u64 _ 0 (by omega))
 have e0 : ad.add 0 = ad:=by unfold Addr.add; rw [if_pos rfl]
 rw [e0] at h0
 obtain ⟨bk,off,pr⟩:=ad
 simp only at hg
 subst hg
 unfold Blk at hk
 cases pr with
 | none =>
   rw [show w.cell? ⟨bk,off,none⟩ = #[Value.slice a b d][off]? from cell_of_row w bk off _ t (0,0) hk] at h0
   match off,h0 with
   | 0,h0 => simp at h0
   | o + 1,h0 => simp at h0
 | some q => simp [World.cell?,hk] at h0
theorem zdn {w : World} {A : oA9} {n c x g : Nat} {t : TypeId} {a : oA9} {b d : Nat} (h : zaf w x A n c) (hk : Blk w g t #[.slice a b d]) (u : Value) : zaf (w.setCell ⟨g,0,none⟩ u) x A n c :=
 zeO h (zlJ h hk) u
theorem zar {w : World} {A : oA9} {n c x g : Nat} {a : oA9} {b d : Nat} (h : zaf w x A n c) (hk : zbP w g (.slice a b d)) (u : Value) : zaf (w.setCell ⟨g,0,none⟩ u) x A n c:=by
 obtain ⟨t,hk⟩:=hk
 exact zdn h hk u
def Apart (base : Nat) (v : Value) (B : oA9) (m : Nat) : Prop:=0 < m → ∀ ad,B = some ad → base ≤ ad.block ∧ v.ownBlock ≠ some ad.block
theorem Apart.fresh {w : World} {base : Nat} {v : Value} {B : oA9} {m n : Nat} {e : TypeId} {vs : List Value} (hf : zdX w B) (hv : w.ownsRow base e 1 v n vs) (hb : base ≤ w.heap.size) : Apart base v B m:=fun _ ad e => by
 have h1:=hf ad e
 refine ⟨by omega,fun hh => ?_⟩
 have:=(hv.lt _ hh).2
 omega
structure zdl (w : World) (base : Nat) (v : Value) (xs : List Nat) (vs : List Value) : Prop where
 own : w.ownsRow base 29 1 v xs.length vs
 num : ∀ i,i < xs.length → ∃ (B : oA9) (m d : Nat),vs[i]? = some (.slice B m d) ∧ zaf w (xs.getD i 0) B m d ∧ Apart base v B m
theorem zdl.nil (w : World) (base : Nat) : zdl w base (.slice none 0 0) [] []:=⟨World.ownsRow_nil _ _ _ _,fun i hi => by simp at hi⟩
theorem zdl.len {w : World} {base : Nat} {v : Value} {xs : List Nat} {vs : List Value} (h : zdl w base v xs vs) : vs.length = xs.length:=by have:=h.own.1; omega
theorem zdl.below {w w' : World} {base : Nat} {v : Value} {xs : List Nat} {vs : List Value} (h : zdl w base v xs vs) (hb : Below w.heap.size w w') : zdl w' base v xs vs:=by
 refine ⟨⟨h.own.1,?_⟩,fun i hi => ?_⟩
 ·rcases h.own.2 with h1 | ⟨g,cap,cur,e1,e2,e3,e4⟩
  ·exact .inl h1
  ·exact .inr ⟨g,cap,cur,e1,e2,(hb.block g (Blk.lt (t:=29) (cs:=cur) e3)).trans e3,e4⟩
 ·obtain ⟨B,m,d,hv,hw,hf⟩:=h.num i hi
  exact ⟨B,m,d,hv,hw.below hb,hf⟩
theorem zdl.set_ {w : World} {base : Nat} {v : Value} {xs : List Nat} {vs : List Value} (h : zdl w base v xs vs) {p : Addr} (hp : p.block < base) (u : Value) : zdl (w.setCell p u) base v xs vs:=by
 refine ⟨⟨h.own.1,?_⟩,fun i hi => ?_⟩
 ·rcases h.own.2 with h1 | ⟨g,cap,cur,e1,e2,e3,e4⟩
  ·exact .inl h1
  ·exact .inr ⟨g,cap,cur,e1,e2,Blk.far (t:=29) (cs:=cur) e3 (by omega) u,e4⟩
 ·obtain ⟨B,m,d,hv,hw,hf⟩:=h.num i hi
  exact ⟨B,m,d,hv,zeO hw (fun hm ad e => by have:=(hf hm ad e).1; omega) u,hf⟩
set_option maxRecDepth 100000 in
theorem zpq (hi lo y : Int) (h0 : 0 < hi) (h1 : hi < y) (hy : y < 18446744073709551616) (hl : Wd lo) (w : World) :
  Calls Tryz.prog 143 #[.int .u64 hi,.int .u64 lo,.int .u64 y] w fun e w' => e = .returned (.tuple #[.int .u64 (divQ hi lo y),.int .u64 (divR hi lo y)]) ∧ w = w':=by
 obtain ⟨hl0,hl1⟩:=hl
 have H:=lh9 (lead64 y (by unfold Wd; omega) w)
 obtain ⟨s,hs0,hs,hY0,hY1⟩:=zmz y (by omega) hy
 rw [hs0] at H
 clear hs0
 obtain ⟨hU0,hU1,hUV⟩:=dg_norm hi lo y s hs (by omega) h1 hl0 hl1
 have hdiv:=dg_shift (hi * 18446744073709551616 + lo) y (2 ^ s) (Int.pow_pos (by decide))
 obtain ⟨Y,hYe⟩ : ∃ Y,y * 2 ^ s = Y:=⟨_,rfl⟩
 have hlow : lo / 2 ^ (64 - s) < 2 ^ s:=by
  refine Int.ediv_lt_of_lt_mul (Int.pow_pos (by decide)) ?_
  rw [← Int.pow_add,show s + (64 - s) = 64 from by omega]; simpa using hl1
 have hlow0 : 0 ≤ lo / 2 ^ (64 - s):=Int.ediv_nonneg hl0 (Int.le_of_lt (Int.pow_pos (by decide)))
 have hhs : 0 ≤ hi * 2 ^ s:=Int.mul_nonneg (by omega) (Int.le_of_lt (Int.pow_pos (by decide)))
 have hor:=or_join hi (lo / 2 ^ (64 - s)) s (by omega) (by omega) hlow0 hlow hs
 have hwr : IntKind.u64.wrap (hi * 2 ^ s) = hi * 2 ^ s:=by rw [IntKind.wrap_u64]; omega
 obtain ⟨U,hUe⟩ : ∃ U,hi * 2 ^ s + lo / 2 ^ (64 - s) = U:=⟨_,rfl⟩
 obtain ⟨V,hVe⟩ : ∃ V,lo * 2 ^ s % 18446744073709551616 = V:=⟨_,rfl⟩
 have hV : 0 ≤ V ∧ V < 18446744073709551616:=by omega
 have E1 : Hid (IntKind.u64.wrap (y * 2 ^ s) = Y):=by rw [hYe,IntKind.wrap_u64]; show _ % _ = _; omega
 have E3 : Hid (bits .or .u64 (IntKind.u64.wrap (hi * 2 ^ s)) (lo / 2 ^ (64 - s)) = U):=by rw [hwr,hor]; exact hUe
 have E4 : Hid (IntKind.u64.wrap (lo * 2 ^ s) = V):=by rw [IntKind.wrap_u64]; exact hVe
 have E2 : Hid (bits .and .u64 Y 4294967295 = Y % 4294967296):=and_low32 Y (by omega) (by omega)
 have E5 : Hid (bits .and .u64 V 4294967295 = V % 4294967296):=and_low32 V (by omega) (by omega)
 rw [hYe] at hY0 hY1 hU1 hdiv
 rw [hUe] at hU0 hU1 hUV
 rw [hVe] at hUV
 obtain ⟨hV0,hV1⟩:=hV
 have hd2:=dq_two U V Y hU0 hU1
 have D1:=Dig.start (u:=V / 4294967296) hU0 hU1 hY0 hY1 (by omega) (by omega)
 have b1:=D1.low
 have b2:=D1.q_hi
 have b3:=D1.sum
 have hq0 : 0 ≤ U / (Y / 4294967296):=Int.ediv_nonneg hU0 (by omega)
 have hq1 : 0 ≤ U / (Y / 4294967296) * (Y / 4294967296):=Int.mul_nonneg hq0 (by omega)
 have hA : 2147483648 ≤ Y / 4294967296:=by omega
 have hr32 : U - U / (Y / 4294967296) * (Y / 4294967296) < 4294967296:=by
  have hm:=Int.mul_ediv_add_emod U (Y / 4294967296)
  have hlt:=Int.emod_lt_of_pos U (show 0 < Y / 4294967296 by omega)
  rw [Int.mul_comm] at hm
  omega
 have bQ1:=zgb (U:=U) (u:=V / 4294967296) (Y:=Y) hU0 hU1 (by omega) (by omega)
 have bT:=zkZ (U:=U) (u:=V / 4294967296) (Y:=Y) (by omega)
 have e6:=zoH (U:=U) (u:=V / 4294967296) (Y:=Y) (by omega) hY1
 obtain ⟨Q1,hQ1⟩ : ∃ q,dgQ U (V / 4294967296) Y = q:=⟨_,rfl⟩
 obtain ⟨T,hT⟩ : ∃ q,dgR U (V / 4294967296) Y = q:=⟨_,rfl⟩
 rw [hT] at bT e6 hd2
 rw [hQ1] at bQ1 e6 hd2
 obtain ⟨hT0,hT1⟩:=bT
 obtain ⟨hQ10,hQ11⟩:=bQ1
 have D2:=Dig.start (u:=V % 4294967296) hT0 hT1 hY0 hY1 (by omega) (by omega)
 have c1:=D2.low
 have c2:=D2.q_hi
 have hp0 : 0 ≤ T / (Y / 4294967296):=Int.ediv_nonneg hT0 (by omega)
 have hp1 : 0 ≤ T / (Y / 4294967296) * (Y / 4294967296):=Int.mul_nonneg hp0 (by omega)
 have ht32 : T - T / (Y / 4294967296) * (Y / 4294967296) < 4294967296:=by
  have hm:=Int.mul_ediv_add_emod T (Y / 4294967296)
  have hlt:=Int.emod_lt_of_pos T (show 0 < Y / 4294967296 by omega)
  rw [Int.mul_comm] at hm
  omega
 have bQ0:=zgb (U:=T) (u:=V % 4294967296) (Y:=Y) hT0 hT1 (by omega) (by omega)
 have bT0:=zkZ (U:=T) (u:=V % 4294967296) (Y:=Y) (by omega)
 have e7:=zoH (U:=T) (u:=V % 4294967296) (Y:=Y) (by omega) hY1
 obtain ⟨Q0,hQ0⟩ : ∃ q,dgQ T (V % 4294967296) Y = q:=⟨_,rfl⟩
 obtain ⟨T0,hT0e⟩ : ∃ q,dgR T (V % 4294967296) Y = q:=⟨_,rfl⟩
 rw [hT0e] at bT0 e7 hd2
 rw [hQ0] at bQ0 e7 hd2
 obtain ⟨hT00,hT01⟩:=bT0
 obtain ⟨hQ00,hQ01⟩:=bQ0
 have E6 : Hid (IntKind.u64.wrap (IntKind.u64.wrap (IntKind.u64.wrap (U * 4294967296) + V / 4294967296) - IntKind.u64.wrap (Q1 * Y)) = T):=by
  rw [IntKind.wrap_u64,IntKind.wrap_u64,IntKind.wrap_u64,IntKind.wrap_u64]; exact e6
 have E7 : Hid (IntKind.u64.wrap (IntKind.u64.wrap (IntKind.u64.wrap (T * 4294967296) + V % 4294967296) - IntKind.u64.wrap (Q0 * Y)) = T0):=by
  rw [IntKind.wrap_u64,IntKind.wrap_u64,IntKind.wrap_u64,IntKind.wrap_u64]; exact e7
 have FQ : Hid (Q1 * 4294967296 + Q0 = divQ hi lo y):=by
  unfold divQ; show _ = _; rw [hd2.1,hUV]; exact hdiv.1
 have FR : Hid (T0 / 2 ^ s = divR hi lo y):=by
  unfold divR; show _ = _; rw [hd2.2,hUV]; exact hdiv.2
 have HD1:=lh9 D1
 have HD2:=lh9 D2
 have HQ1:=lh9 hQ1
 have HQ0:=lh9 hQ0
 clear hdiv hUV hd2 hYe hUe hVe hor hwr b3 D1 D2 hlow hlow0 hhs e6 e7 hQ1 hQ0 hT hT0e
 have z1 : (y == 0) = false:=beq_eq_false_iff_ne.2 (by omega)
 have z2 : (hi == 0) = false:=beq_eq_false_iff_ne.2 (by omega)
 have z3 : decide (y ≤ hi) = false:=by simp; omega
 go_enter Tryz.func143,Tryz.ntmps143
 go_upto_block 0 with (first | (go_at_call 158; refine H.out.mono ?_; rintro e w' ⟨rfl,rfl⟩) | simp only [E1.out,E2.out,E3.out,E4.out,E5.out])
 clear E1 E2 E3 E4 E5 H
 go_cut [15,16] (fun q _ wc => q = .int .u64 Q1 ∧ wc = w)
 case first =>
  go_wp2_with fail
  go_loopg [15,16] 4294967298 (fun k q r wr => ∃ q0 r0 : Int,q = .int .u64 q0 ∧ r = .int .u64 r0 ∧ Dig U (V / 4294967296) Y q0 r0 ∧ r0 < 4294967296 ∧ q0 < k ∧ wr = w)
  case atStart => exact ⟨_,_,rfl,rfl,HD1.out,hr32,by omega,rfl⟩
  case round =>
   obtain ⟨q,r,rfl,rfl,hd,hr,hk,rfl⟩:=hrel
   obtain ⟨g0,g1,g2,g3,g4⟩:=hd.room hU0 hU1 (by omega) (by omega) hr
   by_cases ht : 4294967296 ≤ q ∨ 4294967296 * r + V / 4294967296 < q * (Y % 4294967296)
   ·have hd':=hd.down hU0 hU1 hY0 (by omega) (by omega) ht
    have hq0:=(zgb (U:=U) (u:=V / 4294967296) (Y:=Y) hU0 hU1 (by omega) (by omega)).1
    have hl':=hd'.q_lo
    have hq':=hd.q_hi
    have hq1 : 1 ≤ q:=by omega
    go_wp2
    all_goals first
     | (go_meet; exact ⟨congrArg (Value.int .u64) ((hd'.past hY0 (by omega) (by omega) (by omega)).trans HQ1.out),rfl⟩)
     | (go_roundg (gk - 1)
        case measure => omega
        case rel => exact ⟨_,_,rfl,rfl,hd',by omega,by omega,rfl⟩)
   ·go_wp2
    go_meet
    exact ⟨congrArg (Value.int .u64) ((hd.done hY0 (by omega)).trans HQ1.out),rfl⟩
 case rest =>
  obtain ⟨rfl,rfl⟩:=hcut
  go_upto_block 2 with (simp only [E6.out])
  clear E6
  go_cut [18,16] (fun q _ wd => q = .int .u64 Q0 ∧ wd = wc)
  case first =>
   go_wp2_with fail
   go_loopg [18,16] 4294967298 (fun k q r wr => ∃ q0 r0 : Int,q = .int .u64 q0 ∧ r = .int .u64 r0 ∧ Dig T (V % 4294967296) Y q0 r0 ∧ r0 < 4294967296 ∧ q0 < k ∧ wr = wc)
   case atStart => exact ⟨_,_,rfl,rfl,HD2.out,ht32,by omega,rfl⟩
   case round =>
    obtain ⟨q,r,rfl,rfl,hd,hr,hk,rfl⟩:=hrel
    obtain ⟨g0,g1,g2,g3,g4⟩:=hd.room hT0 hT1 (by omega) (by omega) hr
    by_cases ht : 4294967296 ≤ q ∨ 4294967296 * r + V % 4294967296 < q * (Y % 4294967296)
    ·have hd':=hd.down hT0 hT1 hY0 (by omega) (by omega) ht
     have hq0:=(zgb (U:=T) (u:=V % 4294967296) (Y:=Y) hT0 hT1 (by omega) (by omega)).1
     have hl':=hd'.q_lo
     have hq':=hd.q_hi
     have hq1 : 1 ≤ q:=by omega
     go_wp2
     all_goals first
      | (go_meet; exact ⟨congrArg (Value.int .u64) ((hd'.past hY0 (by omega) (by omega) (by omega)).trans HQ0.out),rfl⟩)
      | (go_roundg (gk - 1)
         case measure => omega
         case rel => exact ⟨_,_,rfl,rfl,hd',by omega,by omega,rfl⟩)
    ·go_wp2
     go_meet
     exact ⟨congrArg (Value.int .u64) ((hd.done hY0 (by omega)).trans HQ0.out),rfl⟩
  case rest =>
   obtain ⟨rfl,rfl⟩:=hcut
   go_wp2_with (simp only [E7.out])
   simp only [FQ.out,FR.out]
   go_ret2
   exact ⟨rfl,rfl⟩
theorem zmh (lo y : Int) (h1 : 0 < y) (hy : y < 18446744073709551616) (hl : Wd lo) (w : World) :
  Calls Tryz.prog 143 #[.int .u64 0,.int .u64 lo,.int .u64 y] w fun e w' => e = .returned (.tuple #[.int .u64 (divQ 0 lo y),.int .u64 (divR 0 lo y)]) ∧ ∃ n,w' = w.drewN n:=by
 obtain ⟨hl0,hl1⟩:=hl
 have z1 : (y == 0) = false:=beq_eq_false_iff_ne.2 (by omega)
 have z3 : decide (y ≤ 0) = false:=by simp; omega
 have q0 : 0 ≤ lo / y:=Int.ediv_nonneg hl0 (by omega)
 have q1 : lo / y < 18446744073709551616:=Int.lt_of_le_of_lt (Int.ediv_le_self y hl0) hl1
 have r0 : 0 ≤ lo % y:=Int.emod_nonneg _ (by omega)
 have r1 : lo % y < 18446744073709551616:=Int.lt_trans (Int.emod_lt_of_pos _ h1) hy
 have FQ : Hid (lo / y = divQ 0 lo y):=by unfold divQ; show _ = _; simp
 have FR : Hid (lo % y = divR 0 lo y):=by unfold divR; show _ = _; simp
 go_enter Tryz.func143,Tryz.ntmps143
 go_wp2
 go_quiet (fail)
 go_wp2
 simp only [FQ.out,FR.out]
 go_ret2
 exact ⟨rfl,_,rfl⟩
theorem div64 (hi lo y : Int) (h0 : Wd hi) (h1 : hi < y) (hy : y < 18446744073709551616) (hl : Wd lo) (w : World) :
  Calls Tryz.prog 143 #[.int .u64 hi,.int .u64 lo,.int .u64 y] w fun e w' => e = .returned (.tuple #[.int .u64 (divQ hi lo y),.int .u64 (divR hi lo y)]) ∧ ∃ n,w' = w.drewN n:=by
 by_cases hz : hi = 0
 ·subst hz
  exact zmh lo y h1 hy hl w
 ·refine (zpq hi lo y (by have:=h0.1; omega) h1 hy hl w).mono ?_
  rintro e w' ⟨rfl,rfl⟩
  exact ⟨rfl,0,rfl⟩
theorem zlI (hi lo y : Int) (h0 : Wd hi) (h1 : hi < y) (hy : y < 18446744073709551616) (hl : Wd lo) (w : World) :
  Calls Tryz.prog 124 #[.int .u64 hi,.int .u64 lo,.int .u64 y] w fun e w' => e = .returned (.tuple #[.int .u64 (divQ hi lo y),.int .u64 (divR hi lo y),.bool true]) ∧ ∃ n,w' = w.drewN n:=by
 have H:=lh9 (div64 hi lo y h0 h1 hy hl w)
 have z1 : decide (y ≤ hi) = false:=by simp; omega
 go_enter Tryz.func124,Tryz.ntmps124
 go_wp2_with (go_at_call 143; refine H.out.mono ?_; rintro e w' ⟨rfl,n,rfl⟩)
 go_ret3
 exact ⟨rfl,n,rfl⟩
theorem znt (hi lo y : Int) (h1 : y ≤ hi) (w : World) :
  Calls Tryz.prog 124 #[.int .u64 hi,.int .u64 lo,.int .u64 y] w fun e w' => e = .returned (.tuple #[.int .u64 0,.int .u64 0,.bool false]) ∧ w = w':=by
 have z1 : decide (y ≤ hi) = true:=by simp; omega
 go_enter Tryz.func124,Tryz.ntmps124
 go_wp2
 go_ret3
 exact ⟨rfl,rfl⟩
end Go.Proofs.YtfieheffipfahaaGreatDoor
