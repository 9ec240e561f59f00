/- What this claim leans on. -/
import Derived.Test.YtedbgdlbgohiiaaGreatDoorBBunN
namespace Go.Proofs.YtedbgdlbgohiiaaGreatDoor
open Go Go.RowKit
set_option maxHeartbeats 16000000
set_option maxRecDepth 100000
set_option linter.unusedVariables false
theorem zcC (x : Nat) (A : oA9) (n c : Nat) (w : World) (h : zad w x A n c) (hn : n ≤ 1099511627776) :
  Calls Tryz.prog 110 #[.agg #[.slice A n c]] w (zed w n (zaw .u64 (dg 18446744073709551616 x))):=by
 obtain ⟨hr,h1,h2⟩:=h
 have hlen:=hr.len_
 have C : ∀ o,Calls Tryz.prog 133 #[.slice A n c] (w.alloc o) (zed w n (zaw .u64 (dg 18446744073709551616 x))):=fun o => by
  have hro:=((hr.alloc (Nat.le_refl _) o).more (B':=(w.alloc o).heap.size) (by simp))
  rcases A with _ | ad
  ·have hn0 : n = 0:=by
    rcases Nat.eq_zero_or_pos n with h | h
    ·exact h
    ·obtain ⟨ad,e,_⟩:=hr.2 h
     cases e
   subst hn0
   have hl : zaw .u64 (dg 18446744073709551616 x) = []:=by rw [List.eq_nil_of_length_eq_zero hlen]; rfl
   rw [hl]
   exact (zhU c _).mono fun e w' ⟨he,hw⟩ => ⟨_,he,World.ownsRow_nil _ _ _ _,by rw [← hw]; exact (Below.refl _ w).alloc (Nat.le_refl _) o⟩
  ·refine (zeK ad n c _ (w.alloc o) hro hn).mono fun e w' ⟨v,he,ho,hb⟩ => ?_
   refine ⟨v,he,⟨ho.1,?_⟩,((Below.refl _ w).alloc (Nat.le_refl _) o).trans (hb.mono (by simp))⟩
   rcases ho.2 with h | ⟨g,cap,cur,e1,e2,e3⟩
   ·exact .inl h
   ·exact .inr ⟨g,cap,cur,e1,Nat.le_trans (by simp) e2,e3⟩
 obtain ⟨L,hL⟩ : ∃ L,zaw .u64 (dg 18446744073709551616 x) = L:=⟨_,rfl⟩
 rw [hL] at C ⊢
 have HC:=lh9 C
 clear C hr hlen hL
 go_enter Tryz.func110,Tryz.ntmps110
 go_wp2_with fail
 refine (HC.out _).mono ?_
 intro e w1 hg
 have G:=lh9 hg
 obtain ⟨v,rfl,_,_⟩:=hg
 go_wp2
 go_ret
 exact G.out
def zan (w : World) (t : TypeId) (g cap n : Nat) (L : List Nat) : Prop :=
 ∃ cur,Blk w g t cur ∧ n ≤ cap ∧ cap ≤ maxLen ∧ cur.size = cap ∧ L.length = n ∧ cur.toList.take n = zaw .u64 L
section
variable {w w' : World} {t : TypeId} {g cap n : Nat} {L : List Nat}
theorem zan.len (h : zan w t g cap n L) : L.length = n:=by obtain ⟨_,_,_,_,_,h,_⟩:=h; exact h
theorem zan.room (h : zan w t g cap n L) : n ≤ cap ∧ cap ≤ maxLen:=by obtain ⟨_,_,h,h2,_⟩:=h; exact ⟨h,h2⟩
theorem zan.lt (h : zan w t g cap n L) : g < w.heap.size:=by obtain ⟨_,h,_⟩:=h; exact h.lt
theorem zcj (k : IntKind) (l : List Nat) (i : Nat) (h : i < l.length) : (zaw k l)[i]? = some (.int k (l.getD i 0 : Nat)):=by
 simp [zaw,List.getD,List.getElem?_eq_getElem h]
theorem zan.cell (h : zan w t g cap n L) (k : Nat) (hk : k < n) : w.cell? ⟨g,k,none⟩ = some (.int .u64 (L.getD k 0 : Nat)):=by
 obtain ⟨cur,hb,h1,h2,h3,h4,h5⟩:=h
 rw [hb.cell k,← Array.getElem?_toList,← zcj .u64 L k (by omega),← h5,List.getElem?_take,if_pos hk]
theorem zan.frozen (h : zan w t g cap n L) (k : Nat) : w.frozen? ⟨g,k,none⟩ = false:=by
 obtain ⟨cur,hb,_⟩:=h
 exact hb.frozen k
theorem zan.set_ (h : zan w t g cap n L) (k d : Nat) (hk : k < n) : zan (w.setCell ⟨g,k,none⟩ (.int .u64 (d : Int))) t g cap n (L.set k d):=by
 obtain ⟨cur,hb,h1,h2,h3,h4,h5⟩:=h
 refine ⟨_,hb.set_ k _,h1,h2,by simpa using h3,by simpa using h4,?_⟩
 rw [Array.toList_setIfInBounds,List.take_set,h5]
 unfold zaw
 rw [List.map_set]
theorem zan.below {B : Nat} (h : zan w t g cap n L) (hb : Below B w w') (hg : g < B) : zan w' t g cap n L:=by
 obtain ⟨cur,h0,h1⟩:=h
 exact ⟨cur,h0.below hb hg,h1⟩
theorem zan.keep (h : zan w t g cap n L) (hb : Below w.heap.size w w') : zan w' t g cap n L:=h.below hb h.lt
theorem zan.drew (h : zan w t g cap n L) : zan w.drew t g cap n L:=h
theorem zan.alloc (h : zan w t g cap n L) (o : Obj) : zan (w.alloc o) t g cap n L:=by
 obtain ⟨cur,h0,h1⟩:=h
 exact ⟨cur,h0.alloc o,h1⟩
theorem zan.far (h : zan w t g cap n L) {p : Addr} (hp : g ≠ p.block) (u : Value) : zan (w.setCell p u) t g cap n L:=by
 obtain ⟨cur,h0,h1⟩:=h
 exact ⟨cur,h0.far hp u,h1⟩
theorem zan.reads (h : zan w t g cap n L) : zap w w.heap.size 1 (some ⟨g,0,none⟩) n (zaw .u64 L):=by
 have hl:=h.lt
 have hc:=h.cell
 have hn:=h.len
 refine ⟨by rw [zaz]; omega,fun _ => ⟨_,rfl,hl,fun j u hu => ?_⟩⟩
 have hj : j < L.length:=by
  rcases Nat.lt_or_ge j L.length with hj | hj
  ·exact hj
  ·rw [List.getElem?_eq_none (by rw [zaz]; exact hj)] at hu; cases hu
 have e : (⟨g,0,none⟩ : Addr).add j = ⟨g,j,none⟩:=by unfold Addr.add; split <;> simp_all
 rw [e,hc j (by omega),← zcj .u64 L j hj,hu]
theorem zan.own (h : zan w t g cap n L) {base : Nat} (hb : base ≤ g) : w.ownsRow base t 1 (.slice (some ⟨g,0,none⟩) n cap) n (zaw .u64 L):=by
 obtain ⟨cur,h0,h1,h2,h3,h4,h5⟩:=h
 exact ⟨by rw [zaz]; omega,.inr ⟨g,cap,cur,rfl,hb,h0,h1,h2,by omega,by rw [Nat.mul_one]; exact h5⟩⟩
theorem zan.made (w : World) (t : TypeId) (N : Nat) (hN : N ≤ maxLen) : zan (w.alloc (.cells (madeCells (Value.cells (.int .u64 0)) N) t)) t w.heap.size N N (List.replicate N 0):=by
 refine ⟨_,Blk.new w t _,Nat.le_refl _,hN,size_madeCells _ _,by simp,?_⟩
 show (madeCells #[Value.int .u64 0] N).toList.take N = _
 rw [toList_madeCells_one,List.take_of_length_le (by simp)]
 simp [zaw]
theorem zan.of_own {base : Nat} {v : Value} {l : List Nat} (h : w.ownsRow base t 1 v n (zaw .u64 l)) (hn : 0 < n) : ∃ g cap,v = .slice (some ⟨g,0,none⟩) n cap ∧ base ≤ g ∧ zan w t g cap n l:=by
 obtain ⟨h1,h2⟩:=h
 rcases h2 with ⟨_,h⟩ | ⟨g,cap,cur,e,hb,hk,a,b,c,d⟩
 ·omega
 ·refine ⟨g,cap,e,hb,cur,hk,a,b,by omega,by rw [zaz] at h1; omega,?_⟩
  rw [Nat.mul_one] at d
  exact d
end
theorem zap.of_grown_own {w : World} {base n : Nat} {t : TypeId} {v : Value} {xs : List Value} (h : w.ownsRow base t 1 v n xs) : ∃ A c,v = .slice A n c ∧ n ≤ c ∧ c ≤ maxLen ∧ zap w w.heap.size 1 A n xs:=by
 have h0:=h
 obtain ⟨h1,h2⟩:=h
 rcases h2 with ⟨e,hn⟩ | ⟨g,cap,cur,e,hb,hk,a,b,c,d⟩
 ·subst hn
  exact ⟨none,0,e,Nat.le_refl _,by unfold maxLen; omega,by subst e; exact zap.of_own h0⟩
 ·exact ⟨_,_,e,a,b,by subst e; exact zap.of_own h0⟩
structure ziL (w : World) (A : oA9) (n c : Nat) (xs : List Nat) : Prop where
 len : xs.length = n
 fits : n ≤ c
 most : c ≤ 9223372036854775807
 num : ∀ i,i < n → ∃ (ad : Addr) (B : oA9) (m d : Nat),A = some ad ∧ ad.block < w.heap.size ∧ w.cell? (ad.add i) = some (.slice B m d) ∧ zad w (xs.getD i 0) B m d
theorem ziL.below {w w' : World} {A : oA9} {n c : Nat} {xs : List Nat} (h : ziL w A n c xs) (hb : Below w.heap.size w w') : ziL w' A n c xs :=
 ⟨h.len,h.fits,h.most,fun i hi => by
  obtain ⟨ad,B,m,d,e,h1,h2,h3⟩:=h.num i hi
  exact ⟨ad,B,m,d,e,Nat.lt_of_lt_of_le h1 hb.size,zab hb h2,h3.below hb⟩⟩
theorem zdX {w : World} {A : oA9} {n c x : Nat} (h : zad w x A n c) {p : Addr} (hp : 0 < n → ∀ ad,A = some ad → ad.block ≠ p.block) (u : Value) : zad (w.setCell p u) x A n c:=by
 by_cases hn : 0 < n
 ·exact zck h (hp hn) u
 ·exact ⟨⟨h.1.1,fun h0 => absurd h0 hn⟩,h.2⟩
theorem zgw {w w' : World} {x : Nat} {B : oA9} {m d : Nat} (h : zad w x B m d) {row : Option Nat} (hg : w.grownBy w' row) (hr : 0 < m → ∀ ad,B = some ad → some ad.block ≠ row) : zad w' x B m d:=by
 obtain ⟨hr0,h1,h2⟩:=h
 refine ⟨⟨hr0.1,fun hn => ?_⟩,h1,h2⟩
 obtain ⟨ad,e,hb,hc⟩:=hr0.2 hn
 refine ⟨ad,e,Nat.lt_of_lt_of_le hb hg.size,fun j u hu => ?_⟩
 exact (World.cell?_of_block (hg.block _ (by rw [zao]; exact hb) (by rw [zao]; exact hr hn ad e))).trans (hc j u hu)
theorem zjv {w : World} {A : oA9} {n c x g : Nat} {t : TypeId} {a : oA9} {b d : Nat} (h : zad w x A n c) (hk : Blk w g t #[.slice a b d]) : 0 < n → ∀ ad,A = some ad → ad.block ≠ g:=fun hn ad e hg => by
 obtain ⟨ad',e',_,hc⟩:=h.1.2 hn
 rw [e] at e'
 injection e' with e'
 subst e'
 have hl:=h.len
 have h0:=hc 0 (.int .u64 ((dg 18446744073709551616 x).getD 0 0 : Nat)) (zcj .u64 _ 0 (by omega))
 have e0 : ad.add 0 = ad:=by unfold Addr.add; rw [if_pos rfl]
 rw [e0] at h0
 obtain ⟨bk,off,pr⟩:=ad
 simp only at hg
 subst hg
 unfold Blk at hk
 cases pr with
 | none =>
   rw [show w.cell? ⟨bk,off,none⟩ = #[Value.slice a b d][off]? from cell_of_row w bk off _ t (0,0) hk] at h0
   match off,h0 with
   | 0,h0 => simp at h0
   | o + 1,h0 => simp at h0
 | some q => simp [World.cell?,hk] at h0
theorem zds {w : World} {A : oA9} {n c x g : Nat} {t : TypeId} {a : oA9} {b d : Nat} (h : zad w x A n c) (hk : Blk w g t #[.slice a b d]) (u : Value) : zad (w.setCell ⟨g,0,none⟩ u) x A n c :=
 zdX h (zjv h hk) u
theorem zam {w : World} {A : oA9} {n c x g : Nat} {a : oA9} {b d : Nat} (h : zad w x A n c) (hk : zby w g (.slice a b d)) (u : Value) : zad (w.setCell ⟨g,0,none⟩ u) x A n c:=by
 obtain ⟨t,hk⟩:=hk
 exact zds h hk u
def zjy (base : Nat) (v : Value) (B : oA9) (m : Nat) : Prop:=0 < m → ∀ ad,B = some ad → base ≤ ad.block ∧ v.ownBlock ≠ some ad.block
theorem zjy.grow {w w' : World} {base x m d : Nat} {v v' : Value} {B : oA9} (h : zjy base v B m) (hx : zad w x B m d) (hg : w.grownBy w' v.ownBlock) (ha : v'.ownBlock = v.ownBlock ∨ v'.ownBlock = some w.heap.size) : zad w' x B m d ∧ zjy base v' B m:=by
 refine ⟨zgw hx hg (fun hm ad e => (h hm ad e).2.symm),fun hm ad e => ⟨(h hm ad e).1,?_⟩⟩
 rcases ha with ha | ha
 ·rw [ha]; exact (h hm ad e).2
 ·rw [ha]
  obtain ⟨ad',e',hlt,_⟩:=hx.1.2 hm
  rw [e] at e'
  injection e' with e'
  subst e'
  intro hh
  injection hh with hh
  omega
structure zbB (w : World) (base : Nat) (v : Value) (xs : List Nat) (vs : List Value) : Prop where
 own : w.ownsRow base 44 1 v xs.length vs
 num : ∀ i,i < xs.length → ∃ (B : oA9) (m d : Nat),vs[i]? = some (.slice B m d) ∧ zad w (xs.getD i 0) B m d ∧ zjy base v B m
theorem zbB.nil (w : World) (base : Nat) : zbB w base (.slice none 0 0) [] []:=⟨World.ownsRow_nil _ _ _ _,fun i hi => by simp at hi⟩
theorem zbB.len {w : World} {base : Nat} {v : Value} {xs : List Nat} {vs : List Value} (h : zbB w base v xs vs) : vs.length = xs.length:=by have:=h.own.1; omega
theorem zbB.shape {w : World} {base : Nat} {v : Value} {xs : List Nat} {vs : List Value} (h : zbB w base v xs vs) : ∃ A c,v = .slice A xs.length c ∧ ziL w A xs.length c xs:=by
 obtain ⟨A,c,e,h1,h2,h3⟩:=zap.of_grown_own h.own
 refine ⟨A,c,e,rfl,h1,by unfold maxLen at h2; omega,fun i hi => ?_⟩
 obtain ⟨B,m,d,hv,hw,_⟩:=h.num i hi
 obtain ⟨ad,ea,hb,hc⟩:=h3.2 (by omega)
 exact ⟨ad,B,m,d,ea,hb,hc i _ hv,hw⟩
theorem zbB.below {w w' : World} {base : Nat} {v : Value} {xs : List Nat} {vs : List Value} (h : zbB w base v xs vs) (hb : Below w.heap.size w w') : zbB w' base v xs vs:=by
 refine ⟨⟨h.own.1,?_⟩,fun i hi => ?_⟩
 ·rcases h.own.2 with h1 | ⟨g,cap,cur,e1,e2,e3,e4⟩
  ·exact .inl h1
  ·exact .inr ⟨g,cap,cur,e1,e2,(hb.block g (Blk.lt (t:=44) (cs:=cur) e3)).trans e3,e4⟩
 ·obtain ⟨B,m,d,hv,hw,hf⟩:=h.num i hi
  exact ⟨B,m,d,hv,hw.below hb,hf⟩
theorem zbB.set_ {w : World} {base : Nat} {v : Value} {xs : List Nat} {vs : List Value} (h : zbB w base v xs vs) {p : Addr} (hp : p.block < base) (u : Value) : zbB (w.setCell p u) base v xs vs:=by
 refine ⟨⟨h.own.1,?_⟩,fun i hi => ?_⟩
 ·rcases h.own.2 with h1 | ⟨g,cap,cur,e1,e2,e3,e4⟩
  ·exact .inl h1
  ·exact .inr ⟨g,cap,cur,e1,e2,Blk.far (t:=44) (cs:=cur) e3 (by omega) u,e4⟩
 ·obtain ⟨B,m,d,hv,hw,hf⟩:=h.num i hi
  exact ⟨B,m,d,hv,zdX hw (fun hm ad e => by have:=(hf hm ad e).1; omega) u,hf⟩
theorem zbB.grow {w w' : World} {base n : Nat} {v v' : Value} {xs : List Nat} {vs : List Value} {x : Nat} {B : oA9} {m d : Nat} (h : zbB w base v xs vs) (hx : zad w x B m d) (hB : zjy base v B m)
  (ho : w'.ownsRow base 44 1 v' n (vs ++ [.slice B m d])) (hn : n = xs.length + 1) (hg : w.grownBy w' v.ownBlock) (ha : v'.ownBlock = v.ownBlock ∨ v'.ownBlock = some w.heap.size) : zbB w' base v' (xs ++ [x]) (vs ++ [.slice B m d]):=by
 have hl:=h.len
 refine ⟨by rw [List.length_append,List.length_singleton,← hn]; exact ho,fun i hi => ?_⟩
 rw [List.length_append,List.length_singleton] at hi
 by_cases hlt : i < xs.length
 ·obtain ⟨C,k,e,hv,hw,hf⟩:=h.num i hlt
  obtain ⟨h1,h2⟩:=hf.grow hw hg ha
  refine ⟨C,k,e,by rw [List.getElem?_append_left (by omega)]; exact hv,?_,h2⟩
  rw [List.getD_eq_getElem?_getD,List.getElem?_append_left hlt,← List.getD_eq_getElem?_getD]
  exact h1
 ·have hi2 : i = xs.length:=by omega
  subst hi2
  obtain ⟨h1,h2⟩:=hB.grow hx hg ha
  refine ⟨B,m,d,by rw [List.getElem?_append_right (by omega),hl]; simp,?_,h2⟩
  rw [List.getD_eq_getElem?_getD,List.getElem?_append_right (Nat.le_refl _)]
  simpa using h1
end Go.Proofs.YtedbgdlbgohiiaaGreatDoor
