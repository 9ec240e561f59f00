/- What this claim leans on. -/
import Derived.Test.YtlgnacmgepnamaaGreatDoorKBunN
import Derived.Deep.Matrix
import Derived.Laws.BytesArg
namespace Go.Proofs.YtlgnacmgepnamaaGreatDoor
open Go Go.RowKit
open Go.ChangeShapes Go.WideShapes Go.ChangeAt
set_option maxHeartbeats 16000000
set_option linter.unusedVariables false
namespace UA
set_option maxHeartbeats 16000000
theorem one_le {H:Type}(d:DataW H):1<=Rows.uptoBulk d:=by
 cases d with
 |lit l=>cases l<;>simp [Rows.uptoBulk]
 |nil=>simp [Rows.uptoBulk]
 |ptr d=>simp [Rows.uptoBulk]
 |slice elems spare=>simp [Rows.uptoBulk]
 |agg parts=>simp [Rows.uptoBulk]
 |iface t d=>simp [Rows.uptoBulk]
 |map entries=>simp [Rows.uptoBulk]
 |held h=>simp [Rows.uptoBulk]
theorem zjs {H:Type}(l:List (DataW H)):l.length<=Rows.uptoBulkAll l:=by
 induction l with
 |nil=>simp [Rows.uptoBulkAll]
 |cons x r ih=>have:=one_le x;simp only [Rows.uptoBulkAll,List.length_cons];omega
theorem slice_le {H:Type}(elems spare:List (DataW H)):elems.length+spare.length+1<=Rows.uptoBulk (.slice elems spare):=by
 have h1:=zjs elems
 have h2:=zjs spare
 simp only [Rows.uptoBulk]
 omega
end UA
open Go Go.RowKit
open Go.ChangeShapes Go.WideShapes Go.ChangeAt Go.Deep
set_option maxHeartbeats 16000000
set_option linter.unusedVariables false
open Go Go.RowKit
open Go.ChangeShapes Go.WideShapes Go.ChangeAt Go.Deep
set_option maxHeartbeats 16000000
set_option linter.unusedVariables false
open Go Go.RowKit
open Go.ChangeShapes Go.WideShapes Go.ChangeAt Go.Deep
set_option maxHeartbeats 16000000
set_option linter.unusedVariables false
namespace UA
set_option maxHeartbeats 16000000
theorem mem_le {H:Type}{d:DataW H}{l:List (DataW H)}(h:d ∈ l):Rows.uptoBulk d<=Rows.uptoBulkAll l:=by
 induction l with
 |nil=>cases h
 |cons x r ih=>
   simp only [Rows.uptoBulkAll]
   rcases List.mem_cons.1 h with rfl|h
   ·omega
   ·have:=ih h;omega
end UA
open Go Go.RowKit
set_option maxHeartbeats 16000000
def zal (w:World):Prop:=∀j,j<Lib.deBruijn64tab.length->w.cell? ⟨0,j,none⟩=some (.int .u8 (Lib.deBruijn64tab.getD j 0:Nat))
theorem zal.below {B:Nat}{w w':World}(h:zal w)(hb:Below B w w')(hB:0<B):zal w':=λj hj=>(hb.cell (p:=⟨0,j,none⟩) hB).trans (h j hj)
theorem zal.drewN {w:World}(h:zal w)(n:Nat):zal (w.drewN n):=h
theorem zal.on {w w':World}(h:zal w)(hb:Below w.heap.size w w'):zal w':=h.below hb (by
 have:=h 0 (by decide)
 exact World.block_lt_of_cell? w _ this)
open Go Go.RowKit
set_option maxHeartbeats 16000000
theorem tz_key (x a:Nat)(hx:x<18446744073709551616)(hx0:x≠0)(hlow:x&&&(18446744073709551616 - x)=a):
  IntKind.u64.wrap (bits BinOp.and IntKind.u64 (x:Int) (IntKind.u64.wrap (-(x:Int)))*285870213051353865) / 288230376151711744=((a*285870213051353865%18446744073709551616 / 288230376151711744:Nat):Int):=by
 have e1:IntKind.u64.wrap (-(x:Int))=((18446744073709551616 - x:Nat):Int):=by rw [IntKind.wrap_u64];omega
 rw [e1,bits_and_u64_nat x _ hx (by omega),hlow,IntKind.wrap_u64]
 omega
theorem zkL (x k idx:Nat)(w:World)(hx0:((x:Int)==0)=false)
  (key:IntKind.u64.wrap (bits BinOp.and IntKind.u64 (x:Int) (IntKind.u64.wrap (-(x:Int)))*285870213051353865) / 288230376151711744=(idx:Int))
  (hi:idx<64) (hk:k<64) (hcell:w.cell? ⟨0,idx,none⟩=some (.int .u8 k)):
  Calls Tryz.prog 191 #[.int .u64 x] w λe w'=>e=.returned (.int .i64 k)/\w=w':=by
 go_enter Tryz.func191,Tryz.ntmps191
 go_wp2_with (simp only [key])
 go_ret
 exact⟨rfl,rfl⟩
theorem zkM (w:World):
  Calls Tryz.prog 191 #[.int .u64 0] w λe w'=>e=.returned (.int .i64 64)/\w=w':=by
 go_enter Tryz.func191,Tryz.ntmps191
 go_wp2
 go_ret
 exact⟨rfl,rfl⟩
theorem zoz (x:Int)(hx:Wd x)(w:World)(hT:zal w):
  Calls Tryz.prog 191 #[.int .u64 x] w λe w'=>e=.returned (.int .i64 (zfX x))/\w=w':=by
 obtain⟨h0,h1⟩:=hx
 obtain⟨x,rfl⟩:=Int.eq_ofNat_of_zero_le h0
 have hN:x<18446744073709551616:=by omega
 unfold zfX
 rw [Int.toNat_natCast]
 by_cases hx0:x=0
 ·subst hx0
  exact zkM w
 ·obtain⟨hlow,hk⟩:=Lib.lowest_bit 64 x hx0 hN
  obtain⟨hi,htab⟩:=Lib.deBruijn64_at _ hk
  have hcell:=hT _ hi
  rw [htab] at hcell
  exact zkL x _ _ w (by simp;omega) (tz_key x _ hN hx0 hlow) hi hk hcell
open Go Go.RowKit
set_option maxHeartbeats 16000000
theorem znO (x:Int)(hx:Wd x)(w:World)(hT:zal w):
  Calls Tryz.prog 180 #[.int .u64 x] w λe w'=>e=.returned (.int .i64 (zfX x))/\w=w':=by
 have H:=lh9 (zoz x hx w hT)
 clear hT
 go_enter Tryz.func180,Tryz.ntmps180
 go_wp2_with (go_at_call 191;refine H.out.mono ?_;rintro e w' ⟨rfl,rfl⟩)
 go_ret
 exact⟨rfl,rfl⟩
open Go Go.RowKit
set_option maxHeartbeats 16000000
set_option maxRecDepth 100000
set_option linter.unusedVariables false
theorem zdi (x:Nat)(A:oA9)(n c:Nat)(w:World)(h:zaf w x A n c)(hn:n<=1099511627776):
  Calls Tryz.prog 106 #[.agg #[.slice A n c]] w (zeJ w n (zat .u64 (dg 18446744073709551616 x))):=by
 obtain⟨hr,h1,h2⟩:=h
 have hlen:=hr.len_
 have C:∀o,Calls Tryz.prog 132 #[.slice A n c] (w.alloc o) (zeJ w n (zat .u64 (dg 18446744073709551616 x))):=λo=>by
  have hro:=((hr.alloc (Nat.le_refl _) o).more (B':=(w.alloc o).heap.size) (by simp))
  rcases A with _|ad
  ·have hn0:n=0:=by
    rcases Nat.eq_zero_or_pos n with h|h
    ·exact h
    ·obtain⟨ad,e,_⟩:=hr.2 h
     cases e
   subst hn0
   have hl:zat .u64 (dg 18446744073709551616 x)=[]:=by rw [List.eq_nil_of_length_eq_zero hlen];rfl
   rw [hl]
   exact(ziU c _).mono λe w' ⟨he,hw⟩=>⟨_,he,World.ownsRow_nil _ _ _ _,by rw [<-hw];exact(Below.refl _ w).alloc (Nat.le_refl _) o⟩
  ·refine(zfD ad n c _ (w.alloc o) hro hn).mono λe w' ⟨v,he,ho,hb⟩=>?_
   refine⟨v,he,⟨ho.1,?_⟩,((Below.refl _ w).alloc (Nat.le_refl _) o).trans (hb.mono (by simp))⟩
   rcases ho.2 with h|⟨g,cap,cur,e1,e2,e3⟩
   ·exact .inl h
   ·exact .inr ⟨g,cap,cur,e1,Nat.le_trans (by simp) e2,e3⟩
 obtain⟨L,hL⟩:∃L,zat .u64 (dg 18446744073709551616 x)=L:=⟨_,rfl⟩
 rw [hL] at C⊢
 have HC:=lh9 C
 clear C hr hlen hL
 go_enter Tryz.func106,Tryz.ntmps106
 go_wp2_with fail
 refine(HC.out _).mono ?_
 intro e w1 hg
 have G:=lh9 hg
 obtain⟨v,rfl,_,_⟩:=hg
 go_wp2
 go_ret
 exact G.out
open Go Go.RowKit
set_option maxHeartbeats 16000000
set_option linter.unusedVariables false
def zar (w:World)(t:TypeId)(g cap n:Nat)(L:List Nat):Prop:=
 ∃cur,Blk w g t cur/\n<=cap/\cap<=maxLen/\cur.size=cap/\L.length=n/\cur.toList.take n=zat .u64 L
section
variable {w w':World}{t:TypeId}{g cap n:Nat}{L:List Nat}
theorem zar.len (h:zar w t g cap n L):L.length=n:=by obtain⟨_,_,_,_,_,h,_⟩:=h;exact h
theorem zar.room (h:zar w t g cap n L):n<=cap/\cap<=maxLen:=by obtain⟨_,_,h,h2,_⟩:=h;exact⟨h,h2⟩
theorem zar.lt (h:zar w t g cap n L):g<w.heap.size:=by obtain⟨_,h,_⟩:=h;exact h.lt
theorem zcl (k:IntKind)(l:List Nat)(i:Nat)(h:i<l.length):(zat k l)[i]?=some (.int k (l.getD i 0:Nat)):=by
 simp [zat,List.getD,List.getElem?_eq_getElem h]
theorem zar.cell (h:zar w t g cap n L)(k:Nat)(hk:k<n):w.cell? ⟨g,k,none⟩=some (.int .u64 (L.getD k 0:Nat)):=by
 obtain⟨cur,hb,h1,h2,h3,h4,h5⟩:=h
 rw [hb.cell k,<-Array.getElem?_toList,<-zcl .u64 L k (by omega),<-h5,List.getElem?_take,if_pos hk]
theorem zar.frozen (h:zar w t g cap n L)(k:Nat):w.frozen? ⟨g,k,none⟩=false:=by
 obtain⟨cur,hb,_⟩:=h
 exact hb.frozen k
theorem zar.set_ (h:zar w t g cap n L)(k d:Nat)(hk:k<n):zar (w.setCell ⟨g,k,none⟩ (.int .u64 (d:Int))) t g cap n (L.set k d):=by
 obtain⟨cur,hb,h1,h2,h3,h4,h5⟩:=h
 refine⟨_,hb.set_ k _,h1,h2,by simpa using h3,by simpa using h4,?_⟩
 rw [Array.toList_setIfInBounds,List.take_set,h5]
 unfold zat
 rw [List.map_set]
theorem zar.below {B:Nat}(h:zar w t g cap n L)(hb:Below B w w')(hg:g<B):zar w' t g cap n L:=by
 obtain⟨cur,h0,h1⟩:=h
 exact⟨cur,h0.below hb hg,h1⟩
theorem zar.keep (h:zar w t g cap n L)(hb:Below w.heap.size w w'):zar w' t g cap n L:=h.below hb h.lt
theorem zar.drew (h:zar w t g cap n L):zar w.drew t g cap n L:=h
theorem zar.alloc (h:zar w t g cap n L)(o:Obj):zar (w.alloc o) t g cap n L:=by
 obtain⟨cur,h0,h1⟩:=h
 exact⟨cur,h0.alloc o,h1⟩
theorem zar.far (h:zar w t g cap n L){p:Addr}(hp:g≠p.block)(u:Value):zar (w.setCell p u) t g cap n L:=by
 obtain⟨cur,h0,h1⟩:=h
 exact⟨cur,h0.far hp u,h1⟩
theorem zar.reads (h:zar w t g cap n L):zas w w.heap.size 1 (some ⟨g,0,none⟩) n (zat .u64 L):=by
 have hl:=h.lt
 have hc:=h.cell
 have hn:=h.len
 refine⟨by rw [zaz];omega,λ_=>⟨_,rfl,hl,λj u hu=>?_⟩⟩
 have hj:j<L.length:=by
  rcases Nat.lt_or_ge j L.length with hj|hj
  ·exact hj
  ·rw [List.getElem?_eq_none (by rw [zaz];exact hj)] at hu;cases hu
 have e:(⟨g,0,none⟩:Addr).add j=⟨g,j,none⟩:=by unfold Addr.add;split<;>simp_all
 rw [e,hc j (by omega),<-zcl .u64 L j hj,hu]
theorem zar.own (h:zar w t g cap n L){base:Nat}(hb:base<=g):w.ownsRow base t 1 (.slice (some ⟨g,0,none⟩) n cap) n (zat .u64 L):=by
 obtain⟨cur,h0,h1,h2,h3,h4,h5⟩:=h
 exact⟨by rw [zaz];omega,.inr ⟨g,cap,cur,rfl,hb,h0,h1,h2,by omega,by rw [Nat.mul_one];exact h5⟩⟩
theorem zar.made (w:World)(t:TypeId)(N:Nat)(hN:N<=maxLen):zar (w.alloc (.cells (madeCells (Value.cells (.int .u64 0)) N) t)) t w.heap.size N N (List.replicate N 0):=by
 refine⟨_,Blk.new w t _,Nat.le_refl _,hN,size_madeCells _ _,by simp,?_⟩
 show(madeCells #[Value.int .u64 0] N).toList.take N=_
 rw [toList_madeCells_one,List.take_of_length_le (by simp)]
 simp [zat]
theorem zar.of_own {base:Nat}{v:Value}{l:List Nat}(h:w.ownsRow base t 1 v n (zat .u64 l))(hn:0<n):∃g cap,v=.slice (some ⟨g,0,none⟩) n cap/\base<=g/\zar w t g cap n l:=by
 obtain⟨h1,h2⟩:=h
 rcases h2 with⟨_,h⟩|⟨g,cap,cur,e,hb,hk,a,b,c,d⟩
 ·omega
 ·refine⟨g,cap,e,hb,cur,hk,a,b,by omega,by rw [zaz] at h1;omega,?_⟩
  rw [Nat.mul_one] at d
  exact d
end
theorem zas.of_grown_own {w:World}{base n:Nat}{t:TypeId}{v:Value}{xs:List Value}(h:w.ownsRow base t 1 v n xs):∃A c,v=.slice A n c/\n<=c/\c<=maxLen/\zas w w.heap.size 1 A n xs:=by
 have h0:=h
 obtain⟨h1,h2⟩:=h
 rcases h2 with⟨e,hn⟩|⟨g,cap,cur,e,hb,hk,a,b,c,d⟩
 ·subst hn
  exact⟨none,0,e,Nat.le_refl _,by unfold maxLen;omega,by subst e;exact zas.of_own h0⟩
 ·exact⟨_,_,e,a,b,by subst e;exact zas.of_own h0⟩
open Go Go.RowKit
set_option maxHeartbeats 16000000
set_option linter.unusedVariables false
structure zjW (w:World)(A:oA9)(n c:Nat)(xs:List Nat):Prop where
 len:xs.length=n
 fits:n<=c
 most:c<=9223372036854775807
 num:∀i,i<n->∃(ad:Addr) (B:oA9) (m d:Nat),A=some ad/\ad.block<w.heap.size/\w.cell? (ad.add i)=some (.slice B m d)/\zaf w (xs.getD i 0) B m d
theorem zjW.below {w w':World}{A:oA9}{n c:Nat}{xs:List Nat}(h:zjW w A n c xs)(hb:Below w.heap.size w w'):zjW w' A n c xs:=
 ⟨h.len,h.fits,h.most,λi hi=>by
  obtain⟨ad,B,m,d,e,h1,h2,h3⟩:=h.num i hi
  exact⟨ad,B,m,d,e,Nat.lt_of_lt_of_le h1 hb.size,zad hb h2,h3.below hb⟩⟩
theorem zeD {w:World}{A:oA9}{n c x:Nat}(h:zaf w x A n c){p:Addr}(hp:0<n->∀ad,A=some ad->ad.block≠p.block)(u:Value):zaf (w.setCell p u) x A n c:=by
 by_cases hn:0<n
 ·exact zcG h (hp hn) u
 ·exact⟨⟨h.1.1,λh0=>absurd h0 hn⟩,h.2⟩
theorem zhl {w w':World}{x:Nat}{B:oA9}{m d:Nat}(h:zaf w x B m d){row:Option Nat}(hg:w.grownBy w' row)(hr:0<m->∀ad,B=some ad->some ad.block≠row):zaf w' x B m d:=by
 obtain⟨hr0,h1,h2⟩:=h
 refine⟨⟨hr0.1,λhn=>?_⟩,h1,h2⟩
 obtain⟨ad,e,hb,hc⟩:=hr0.2 hn
 refine⟨ad,e,Nat.lt_of_lt_of_le hb hg.size,λj u hu=>?_⟩
 exact(World.cell?_of_block (hg.block _ (by rw [zao];exact hb) (by rw [zao];exact hr hn ad e))).trans (hc j u hu)
theorem zkP {w:World}{A:oA9}{n c x g:Nat}{t:TypeId}{a:oA9}{b d:Nat}(h:zaf w x A n c)(hk:Blk w g t #[.slice a b d]):0<n->∀ad,A=some ad->ad.block≠g:=λhn ad e hg=>by
 obtain⟨ad',e',_,hc⟩:=h.1.2 hn
 rw [e] at e'
 injection e' with e'
 subst e'
 have hl:=h.len
 have h0:=hc 0 (.int .u64 ((dg 18446744073709551616 x).getD 0 0:Nat)) (zcl .u64 _ 0 (by omega))
 have e0:ad.add 0=ad:=by unfold Addr.add;rw [if_pos rfl]
 rw [e0] at h0
 obtain⟨bk,off,pr⟩:=ad
 simp only at hg
 subst hg
 unfold Blk at hk
 cases pr with
 |none=>
   rw [show w.cell? ⟨bk,off,none⟩=#[Value.slice a b d][off]? from cell_of_row w bk off _ t (0,0) hk] at h0
   match off,h0 with
   |0,h0=>simp at h0
   |o+1,h0=>simp at h0
 |some q=>simp [World.cell?,hk] at h0
theorem zdZ {w:World}{A:oA9}{n c x g:Nat}{t:TypeId}{a:oA9}{b d:Nat}(h:zaf w x A n c)(hk:Blk w g t #[.slice a b d])(u:Value):zaf (w.setCell ⟨g,0,none⟩ u) x A n c:=
 zeD h (zkP h hk) u
theorem zap {w:World}{A:oA9}{n c x g:Nat}{a:oA9}{b d:Nat}(h:zaf w x A n c)(hk:zbI w g (.slice a b d))(u:Value):zaf (w.setCell ⟨g,0,none⟩ u) x A n c:=by
 obtain⟨t,hk⟩:=hk
 exact zdZ h hk u
def zkR (base:Nat)(v:Value)(B:oA9)(m:Nat):Prop:=0<m->∀ad,B=some ad->base<=ad.block/\v.ownBlock≠some ad.block
theorem zkR.grow {w w':World}{base x m d:Nat}{v v':Value}{B:oA9}(h:zkR base v B m)(hx:zaf w x B m d)(hg:w.grownBy w' v.ownBlock)(ha:v'.ownBlock=v.ownBlock\/v'.ownBlock=some w.heap.size):zaf w' x B m d/\zkR base v' B m:=by
 refine⟨zhl hx hg (λhm ad e=>(h hm ad e).2.symm),λhm ad e=>⟨(h hm ad e).1,?_⟩⟩
 rcases ha with ha|ha
 ·rw [ha];exact(h hm ad e).2
 ·rw [ha]
  obtain⟨ad',e',hlt,_⟩:=hx.1.2 hm
  rw [e] at e'
  injection e' with e'
  subst e'
  intro hh
  injection hh with hh
  omega
structure zbL (w:World)(base:Nat)(v:Value)(xs:List Nat)(vs:List Value):Prop where
 own:w.ownsRow base 44 1 v xs.length vs
 num:∀i,i<xs.length->∃(B:oA9) (m d:Nat),vs[i]?=some (.slice B m d)/\zaf w (xs.getD i 0) B m d/\zkR base v B m
theorem zbL.nil (w:World)(base:Nat):zbL w base (.slice none 0 0) [] []:=⟨World.ownsRow_nil _ _ _ _,λi hi=>by simp at hi⟩
theorem zbL.len {w:World}{base:Nat}{v:Value}{xs:List Nat}{vs:List Value}(h:zbL w base v xs vs):vs.length=xs.length:=by have:=h.own.1;omega
theorem zbL.shape {w:World}{base:Nat}{v:Value}{xs:List Nat}{vs:List Value}(h:zbL w base v xs vs):∃A c,v=.slice A xs.length c/\zjW w A xs.length c xs:=by
 obtain⟨A,c,e,h1,h2,h3⟩:=zas.of_grown_own h.own
 refine⟨A,c,e,rfl,h1,by unfold maxLen at h2;omega,λi hi=>?_⟩
 obtain⟨B,m,d,hv,hw,_⟩:=h.num i hi
 obtain⟨ad,ea,hb,hc⟩:=h3.2 (by omega)
 exact⟨ad,B,m,d,ea,hb,hc i _ hv,hw⟩
theorem zbL.below {w w':World}{base:Nat}{v:Value}{xs:List Nat}{vs:List Value}(h:zbL w base v xs vs)(hb:Below w.heap.size w w'):zbL w' base v xs vs:=by
 refine⟨⟨h.own.1,?_⟩,λi hi=>?_⟩
 ·rcases h.own.2 with h1|⟨g,cap,cur,e1,e2,e3,e4⟩
  ·exact .inl h1
  ·exact .inr ⟨g,cap,cur,e1,e2,(hb.block g (Blk.lt (t:=44) (cs:=cur) e3)).trans e3,e4⟩
 ·obtain⟨B,m,d,hv,hw,hf⟩:=h.num i hi
  exact⟨B,m,d,hv,hw.below hb,hf⟩
theorem zbL.set_ {w:World}{base:Nat}{v:Value}{xs:List Nat}{vs:List Value}(h:zbL w base v xs vs){p:Addr}(hp:p.block<base)(u:Value):zbL (w.setCell p u) base v xs vs:=by
 refine⟨⟨h.own.1,?_⟩,λi hi=>?_⟩
 ·rcases h.own.2 with h1|⟨g,cap,cur,e1,e2,e3,e4⟩
  ·exact .inl h1
  ·exact .inr ⟨g,cap,cur,e1,e2,Blk.far (t:=44) (cs:=cur) e3 (by omega) u,e4⟩
 ·obtain⟨B,m,d,hv,hw,hf⟩:=h.num i hi
  exact⟨B,m,d,hv,zeD hw (λhm ad e=>by have:=(hf hm ad e).1;omega) u,hf⟩
theorem zbL.grow {w w':World}{base n:Nat}{v v':Value}{xs:List Nat}{vs:List Value}{x:Nat}{B:oA9}{m d:Nat}(h:zbL w base v xs vs)(hx:zaf w x B m d)(hB:zkR base v B m)
  (ho:w'.ownsRow base 44 1 v' n (vs++[.slice B m d])) (hn:n=xs.length+1) (hg:w.grownBy w' v.ownBlock) (ha:v'.ownBlock=v.ownBlock\/v'.ownBlock=some w.heap.size):zbL w' base v' (xs++[x]) (vs++[.slice B m d]):=by
 have hl:=h.len
 refine⟨by rw [List.length_append,List.length_singleton,<-hn];exact ho,λi hi=>?_⟩
 rw [List.length_append,List.length_singleton] at hi
 by_cases hlt:i<xs.length
 ·obtain⟨C,k,e,hv,hw,hf⟩:=h.num i hlt
  obtain⟨h1,h2⟩:=hf.grow hw hg ha
  refine⟨C,k,e,by rw [List.getElem?_append_left (by omega)];exact hv,?_,h2⟩
  rw [List.getD_eq_getElem?_getD,List.getElem?_append_left hlt,<-List.getD_eq_getElem?_getD]
  exact h1
 ·have hi2:i=xs.length:=by omega
  subst hi2
  obtain⟨h1,h2⟩:=hB.grow hx hg ha
  refine⟨B,m,d,by rw [List.getElem?_append_right (by omega),hl];simp,?_,h2⟩
  rw [List.getD_eq_getElem?_getD,List.getElem?_append_right (Nat.le_refl _)]
  simpa using h1
open Go Go.RowKit
set_option maxHeartbeats 16000000
set_option linter.unusedVariables false
open Go Go.RowKit
set_option maxHeartbeats 16000000
set_option linter.unusedVariables false
open Go Go.RowKit
set_option maxHeartbeats 16000000
set_option linter.unusedVariables false
open Go Go.RowKit
set_option maxHeartbeats 16000000
set_option linter.unusedVariables false
def zgI (x y:Int):Int:=if x<y then -1 else if x=y then 0 else 1
theorem zhu (x y:Int):zgI x y=0↔x=y:=by unfold zgI;split<;>(try split)<;>omega
def zej (x:Int):Int:=if x<0 then -1 else if x=0 then 0 else 1
theorem sgnZ_eq (x:Int):zej x=0↔x=0:=by unfold zej;split<;>(try split)<;>omega
open Go Go.RowKit
set_option maxHeartbeats 16000000
set_option maxRecDepth 100000
set_option linter.unusedVariables false
theorem zcN (x:Nat)(A:oA9)(n c:Nat)(w:World)(hA:zaf w x A n c)(hn:n<=1):
  Calls Tryz.prog 151 #[.agg #[.slice A n c]] w λe w'=>e=.returned (.tuple #[.int .u64 (wd x 0:Nat),.bool true])/\Below w.heap.size w w':=by
 have WX:=(λw' (h:Below w.heap.size w w')=>zdm x A n c 0 w' (hA.below h))
 obtain⟨a,ha⟩:∃a,wd x 0=a:=⟨_,rfl⟩
 rw [ha] at WX⊢
 have HWX:=lh9 WX
 have h1:decide ((1:Int)<(n:Int))=false:=by simp;omega
 have h2:decide ((n:Int)>1)=false:=by simp;omega
 have h3:¬ 1<n:=by omega
 clear WX ha hA
 go_enter Tryz.func151,Tryz.ntmps151
 go_wp2_with fail
 obtain⟨b1,b2,b5⟩:=zaA w 44 #[.slice A n c]
 refine(HWX.out _ b1).mono ?_
 rintro e w1 ⟨rfl,hb⟩
 have hB:=zac b1 hb
 clear hb b1 b2 b5
 go_wp2
 go_ret2
 exact⟨rfl,hB⟩
theorem zcq (A:oA9)(n c:Nat)(w:World)(hn:1<n):
  Calls Tryz.prog 151 #[.agg #[.slice A n c]] w λe w'=>e=.returned (.tuple #[.int .u64 0,.bool false])/\Below w.heap.size w w':=by
 go_enter Tryz.func151,Tryz.ntmps151
 go_wp2
 go_ret2
 exact⟨rfl,(Below.refl _ w).alloc (Nat.le_refl _) _⟩
def TW (x t:Nat):Prop:=(x=0/\t=0)\/∃m,x=2^t*(2*m+1)
def zbv (x:Nat):Nat:=if x=0 then 0 else Lib.ctzFrom x x
theorem zkN {x t:Nat}{m:Nat}(h:x=2^t*(2*m+1)):x / 2^t%2=1:=by
 rw [h,Nat.mul_div_cancel_left _ (Nat.two_pow_pos t)];omega
theorem tw_low {x t j:Nat}{m:Nat}(h:x=2^t*(2*m+1))(hj:j<t):x / 2^j%2=0:=by
 obtain⟨s,rfl⟩:∃s,t=j+(s+1):=⟨t - j - 1,by omega⟩
 rw [h,Nat.pow_add,Nat.mul_assoc,Nat.mul_div_cancel_left _ (Nat.two_pow_pos j),Nat.pow_succ,Nat.mul_comm (2^s) 2,Nat.mul_assoc]
 exact Nat.mul_mod_right _ _
theorem tw_pos {x t:Nat}{m:Nat}(h:x=2^t*(2*m+1)):x≠0:=by
 have:=Nat.two_pow_pos t
 rw [h]
 exact Nat.ne_of_gt (Nat.mul_pos this (by omega))
theorem tw_N (x:Nat):TW x (zbv x):=by
 unfold TW zbv
 by_cases h:x=0
 ·exact .inl ⟨h,by rw [if_pos h]⟩
 ·rw [if_neg h]
  obtain⟨m,hm,_⟩:=Lib.ctzFrom_spec x x (by omega) Nat.lt_two_pow_self
  exact .inr ⟨m,hm⟩
theorem tw_find {x t:Nat}(hlow:∀j,j<t->x / 2^j%2=0)(hx:x=0->t=0)(h1:x≠0->x / 2^t%2=1):t=zbv x:=by
 rcases tw_N x with⟨e,h⟩|⟨m,h⟩
 ·rw [hx e,h]
 ·have h0:=tw_pos h
  rcases Nat.lt_trichotomy t (zbv x) with hl|hl|hl
  ·have:=tw_low h hl
   rw [h1 h0] at this;omega
  ·exact hl
  ·have:=zkN h
   rw [hlow _ hl] at this;omega
theorem tw_of {x t m:Nat}(h:x=2^t*(2*m+1)):t=zbv x:=
 tw_find (λj hj=>tw_low h hj) (λe=>absurd e (tw_pos h)) (λ_=>zkN h)
theorem zoA {x k:Nat}(h0:x%18446744073709551616^k=0)(hw:wd x k≠0):64*k+Lib.ctz 64 (wd x k)=zbv x:=by
 have hlt:=zbR x k
 obtain⟨m,hm,hc⟩:=Lib.ctzFrom_spec 64 (wd x k) (by omega) (by simpa using hlt)
 have ec:Lib.ctz 64 (wd x k)=Lib.ctzFrom 64 (wd x k):=by unfold Lib.ctz;rw [if_neg hw]
 rw [ec]
 generalize Lib.ctzFrom 64 (wd x k)=c at*
 obtain⟨s,hs⟩:∃s,64=c+(s+1):=⟨63 - c,by omega⟩
 obtain⟨q,hq⟩:∃q,x / 18446744073709551616^k / 18446744073709551616=q:=⟨_,rfl⟩
 have e1:x / 18446744073709551616^k=18446744073709551616*q+wd x k:=by rw [<-hq];exact(Nat.div_add_mod _ _).symm
 have e2:x=18446744073709551616^k*(x / 18446744073709551616^k):=by
  have:=Nat.div_add_mod x (18446744073709551616^k)
  rw [h0] at this;omega
 have e3:(18446744073709551616:Nat)=2^c*(2*2^s):=by
  rw [show(18446744073709551616:Nat)=2^64 from rfl,hs,Nat.pow_add,Nat.pow_succ,Nat.mul_comm (2^s) 2]
 refine tw_of (m:=2^s*q+m) ?_
 have e4:(18446744073709551616:Nat)^k=2^(64*k):=by rw [show(18446744073709551616:Nat)=2^64 from rfl,<-Nat.pow_mul]
 have e5:18446744073709551616*q+wd x k=2^c*(2*(2^s*q+m)+1):=by
  rw [hm]
  conv=>lhs;rw [e3]
  rw [Nat.mul_assoc,<-Nat.mul_add,Nat.mul_add 2,Nat.mul_assoc,Nat.add_assoc]
 rw [e2,e1,e5,e4,<-Nat.mul_assoc,<-Nat.pow_add]
theorem ziq (x:Nat)(A:oA9)(n c:Nat)(w:World)(hA:zaf w x A n c)(hn:n<=1099511627776)(hT:zal w):
  Calls Tryz.prog 168 #[.agg #[.slice A n c]] w λe w'=>e=.returned (.int .i64 (zbv x:Nat))/\Below w.heap.size w w':=by
 have hln:=lh9 hA.len
 have hr:=hA.1
 have HT:=lh9 (λo=>hT.on ((Below.refl _ w).alloc (Nat.le_refl _) o))
 have hcl:∀o,Hid (zas (w.alloc o) w.heap.size 1 A n (zat .u64 (dg 18446744073709551616 x))):=λo=>hr.alloc (Nat.le_refl _) o
 have HC:=lh9 hcl
 clear hA hT hcl hr
 go_enter Tryz.func168,Tryz.ntmps168
 go_wp2_with fail
 go_loop [3,4,8] (λ_ _ ix=>∃k:Nat,k<=n/\ix=.int .i64 k/\Hid (x%18446744073709551616^k=0)) (λ_ _ ix=>n - (intOf ix).toNat)
 case atStart=>exact⟨0,Nat.zero_le _,rfl,by show _=_;simp [Nat.mod_one]⟩
 case round=>
  obtain⟨k,hk,rfl,H⟩:=hrel
  by_cases hlt:k<n
  ·obtain⟨ad,rfl,hadb,hc0⟩:=zbn (HC.out (.cells #[.slice A n c] 44)).out hlt
   rw [zdY] at hc0
   by_cases hz:wd x k=0
   ·have HN:Hid (x%18446744073709551616^(k+1)=0):=by
     show _=_
     rw [zaN 18446744073709551616 x k,H.out,Nat.zero_add]
     unfold wd at hz
     rw [hz,Nat.mul_zero]
    rw [hz] at hc0
    clear hz
    go_wp2
    go_round
    case rel=>exact⟨k+1,by omega,by go_num,HN⟩
    case measure=>simp [intOf];omega
   ·have HV:=lh9 (zoA H.out hz)
    have hwl:=zbR x k
    have WT:=(λw' (h:zal w')=>znO ((wd x k:Nat):Int) ⟨by omega,by omega⟩ w' h)
    have hbd:=ctz_le (wd x k) (by simpa using hwl)
    have et:zfX ((wd x k:Nat):Int)=((Lib.ctz 64 (wd x k):Nat):Int):=by unfold zfX;simp
    rw [et] at WT
    obtain⟨t,ht⟩:∃t,Lib.ctz 64 (wd x k)=t:=⟨_,rfl⟩
    rw [ht] at WT HV hbd
    obtain⟨a,ha⟩:∃a,wd x k=a:=⟨_,rfl⟩
    rw [ha] at hc0 WT hz
    have hWT:=lh9 WT
    have hz':((a:Int)==0)=false:=beq_eq_false_iff_ne.2 (by omega)
    have hz2:((a:Int) !=0)=true:=by simp;omega
    clear WT ht ha et hz hwl
    go_wp2_with fail
    refine(hWT.out _ (HT.out _)).mono ?_
    rintro e w' ⟨rfl,rfl⟩
    go_wp2
    go_ret
    refine⟨zkF ?_,(Below.refl _ w).alloc (Nat.le_refl _) _⟩
    have:=HV.out
    omega
  ·have hkn:k=n:=by omega
   subst hkn
   have HX:Hid (zbv x=0):=by
    show _=_
    have h1:=zaS (b:=18446744073709551616) (by decide) x
    rw [hln.out] at h1
    have h2:=H.out
    rw [Nat.mod_eq_of_lt h1] at h2
    rw [h2];rfl
   go_wp2
   go_ret
   exact⟨by rw [HX.out];rfl,(Below.refl _ w).alloc (Nat.le_refl _) _⟩
