/- What this claim leans on. -/
import Derived.Test.YtlgnacmgepnamaaGreatDoorKMGrid
namespace Go.Proofs.YtlgnacmgepnamaaGreatDoor
open Go Go.RowKit
open Go.ChangeShapes Go.WideShapes Go.ChangeAt Go.Deep
set_option maxHeartbeats 16000000
set_option linter.unusedVariables false
theorem zfK {H:Type}{enc:TypeId×Value->H}{P:Program}{W:World}{fuel:Nat}{t9 t0 t:TypeId}{f0 f1:Field}{v:Value}{x:DataW H×List MemPlace}
  (ht9:P.underlying t9=some (.slice t0)) (hC9:P.cellsOf t0=1) (ht:P.underlying t0=some (.slice t)) (hs:P.underlying t=some (.struct #[f0,f1])) (hf:(f0.offset,P.cellsOf f0.type,f1.offset,P.cellsOf f1.type)=(0,1,1,1)) (hC:P.cellsOf t=2) (h0:P.underlying f0.type=some (.int .i64)) (h1:P.underlying f1.type=some (.int .i64))
  (h:DataW.trod enc P W 0 (λ_=>true) true fuel t9 [v]=some x) (hb:Rows.uptoBulk x.1<=1048576):∃A n c R,v=.slice A n c/\zaV W A n c R:=by
 have go:∀A n c,[v]=[Value.slice A n c]->∃A n c R,v=.slice A n c/\zaV W A n c R:=λA n c e=>by
  simp only [List.cons.injEq,and_true] at e
  subst e
  obtain⟨R,hR⟩:=ziQ ht9 hC9 ht hs hf hC h0 h1 (A:=A) (n:=n) (c:=c) (by simpa [Value.cells] using h) hb
  exact⟨A,n,c,R,rfl,hR⟩
 rcases open_slice ht9 h with⟨hcs,_⟩|⟨a,len,cap,m,k,D,Pl,hcs,_⟩
 ·exact go _ _ _ hcs
 ·exact go _ _ _ hcs
theorem arg_grid {H:Type}{enc:TypeId×Value->H}{P:Program}{W:World}{r:Reach}{b0:Nat}{t8 t9 t0 t:TypeId}{g0 g1 f0 f1:Field}{v:Value}{d:DataW H}{p:List MemPlace}
  (hs8:P.underlying t8=some (.struct #[g0,g1])) (hone:oneCellFields P #[g0,g1]=true) (hC8:P.cellsOf t8=2) (k0:P.underlying g0.type=some (.int .u8)) (ht9:P.underlying g1.type=some (.slice t0)) (hC9:P.cellsOf t0=1) (ht:P.underlying t0=some (.slice t))
  (hs:P.underlying t=some (.struct #[f0,f1])) (hf:(f0.offset,P.cellsOf f0.type,f1.offset,P.cellsOf f1.type)=(0,1,1,1)) (hC:P.cellsOf t=2) (h0:P.underlying f0.type=some (.int .i64)) (h1:P.underlying f1.type=some (.int .i64))
  (hv:Value.okWide P W r b0 t8 v) (h:DataW.Trod enc P W 0 (λ_=>true) true t8 v d p) (hb:Rows.uptoBulk d<=1048576):∃(z:Nat) (A:oA9) (n c:Nat) (R:Nat->oA9×Nat×Nat×List (Int×Int)),v=.agg #[.int .u8 (z:Int),.slice A n c]/\z<=255/\zaV W A n c R:=by
 obtain⟨v0,v1,y0,y1,n,rfl,rfl,rfl,e0,e1⟩:=Go.Joins.open_agg2 hs8 hone hC8 hv h
 obtain⟨z,hz,_,wz⟩:=DataW.trod_int k0 e0
 simp only [List.cons.injEq,and_true] at hz
 subst hz
 have bz:=bounds_u8 wz
 obtain⟨A,m,c,R,rfl,hR⟩:=zfK ht9 hC9 ht hs hf hC h0 h1 e1 (by simp only [Rows.uptoBulk,Rows.uptoBulkAll] at hb;omega)
 exact⟨z.toNat,A,m,c,R,by rw [Int.toNat_of_nonneg bz.1],by omega,hR⟩
open Go Go.RowKit
set_option maxHeartbeats 16000000
set_option linter.unusedVariables false
theorem zaV.below {W W':World}{A:oA9}{n c:Nat}{R:zhJ}(h:zaV W A n c R)(hb:Below W.heap.size W W'):zaV W' A n c R:=⟨h.fits,h.small,λr hr=>by
 obtain⟨ad,e,h1,h2,h3⟩:=h.row r hr
 exact⟨ad,e,Nat.lt_of_lt_of_le h1 hb.size,zad hb h2,h3.below hb⟩⟩
open Go Go.RowKit
set_option maxHeartbeats 16000000
set_option linter.unusedVariables false
set_option linter.unusedSimpArgs false
theorem znA {w:World}{A:oA9}{n:Nat}{k:IntKind}{l:List Nat}{p:Addr}{B:oA9}{m d:Nat}(h:zas w w.heap.size 1 A n (zat k l))(hp:w.cell? p=some (.slice B m d))(u:Value):zas (w.setCell p u) (w.setCell p u).heap.size 1 A n (zat k l):=by
 refine⟨h.1,λhn=>?_⟩
 obtain⟨ad,e,hb,hc⟩:=h.2 hn
 refine⟨ad,e,by simpa using hb,λj v hv=>?_⟩
 have h0:=hc j v hv
 rw [World.cell?_setCell_other w p (ad.add j) u (λe2=>?_)]
 ·exact h0
 ·have hm:=List.mem_of_getElem? hv
  unfold zat at hm
  obtain⟨z,_,rfl⟩:=List.mem_map.1 hm
  first
   |rw [e2,hp] at h0;cases h0
   |rw [<-e2,hp] at h0;cases h0
theorem zic {w:World}{x:Nat}{A:oA9}{n c:Nat}{p:Addr}{B:oA9}{m d:Nat}(h:zak w x A n c)(hp:w.cell? p=some (.slice B m d))(u:Value):zak (w.setCell p u) x A n c:=⟨znA h.1 hp u,h.2⟩
theorem zpD {w:World}{p:Addr}{B:oA9}{m d:Nat}{r:Rat}{b:Bool}{A:oA9}{n c:Nat}{E:oA9}{k f:Nat}(h:zca w r b A n c E k f)(hp:w.cell? p=some (.slice B m d))(u:Value):zca (w.setCell p u) r b A n c E k f:=⟨⟨h.1.1,zic h.1.2 hp u⟩,zic h.2 hp u⟩
theorem zfe {w:World}{A:oA9}{n c:Nat}{xs:List Rat}{g i:Nat}{t:TypeId}{cs:Array Value}{B:oA9}{m d:Nat}(h:zcK w A n c xs)(hk:Blk w g t cs)(hs:∀u ∈ cs.toList,∀b,u≠.bool b)(hp:w.cell? ⟨g,i,none⟩=some (.slice B m d))(u:Value):zcK (w.setCell ⟨g,i,none⟩ u) A n c xs:=
 zhz h hk hs (zcx.of_far ((zcV.refl g w).set_ i u)) (λh5=>zpD h5 hp u)
theorem zoY {w:World}{x:Nat}{A:oA9}{n c f:Nat}{t:TypeId}(h:zak w x A n c)(k:Blk w f t #[.slice none 0 0,.int .i64 0])(hn:0<n):∀ad,A=some ad->ad.block≠f:=by
 intro ad e hf
 obtain⟨ad',e',_,hc⟩:=zbn h.1 (k:=n - 1) (by omega)
 rw [e] at e'
 injection e' with e'
 subst e'
 have hm:Value.int .i64 (((dg 65536 x).getD (n - 1) 0:Nat):Int)∈(#[.slice none 0 0,.int .i64 0]:Array Value).toList:=by
  have hb:(ad.add (n - 1)).block=f:=by rw [zao];exact hf
  generalize ad.add (n - 1)=q at hb hc
  obtain⟨bk,off,pr⟩:=q
  simp only at hb
  subst hb
  unfold Blk at k
  cases pr with
  |none=>
    rw [show w.cell? ⟨bk,off,none⟩=_ from cell_of_row w bk off _ t (0,0) k,<-Array.getElem?_toList] at hc
    exact List.mem_of_getElem? hc
  |some q=>simp [World.cell?,k] at hc
 have hx:x≠0:=λhx=>by have:=zhX h hx;omega
 have hl:=h.len
 have hv:=zcD (b:=65536) (by decide) x
 have hg:=(zha (b:=65536) (by decide) x hx).2
 have ht:=zaG 65536 (dg 65536 x) (n - 1)
 have hd:=zcm (b:=65536) (l:=(dg 65536 x).take (n - 1)) (λd hd=>zbU (by decide) x d (List.mem_of_mem_take hd))
 rw [List.length_take,<-hl,Nat.min_eq_left (by omega)] at hd
 rw [show n - 1+1=n by omega,List.take_of_length_le (by omega),hv] at ht
 rw [<-hl] at hg
 have hz:(dg 65536 x).getD (n - 1) 0=0:=by
  simp only [List.mem_cons,List.not_mem_nil,or_false] at hm
  rcases hm with hm|hm
  ·cases hm
  ·injection hm with _ hm;omega
 rw [hz,Nat.mul_zero] at ht
 omega
theorem zhY {w w':World}{x:Nat}{A:oA9}{n c f:Nat}{t:TypeId}(h:zak w x A n c)(k:Blk w f t #[.slice none 0 0,.int .i64 0])(ho:zcV f w w'):zak w' x A n c:=by
 have hne:=zoY h k
 refine⟨⟨h.1.1,λhn=>?_⟩,h.2⟩
 obtain⟨ad,e,hb,hc⟩:=h.1.2 hn
 refine⟨ad,e,by rw [ho.1];exact hb,λj v hv=>?_⟩
 rw [ho.2 (ad.add j) (by rw [zao];exact hne hn ad e)]
 exact hc j v hv
theorem zpC {w w':World}{r:Rat}{b:Bool}{A:oA9}{n c:Nat}{E:oA9}{u v f:Nat}{t:TypeId}(h:zca w r b A n c E u v)(k:Blk w f t #[.slice none 0 0,.int .i64 0])(ho:zcV f w w'):zca w' r b A n c E u v:=⟨⟨h.1.1,zhY h.1.2 k ho⟩,zhY h.2 k ho⟩
theorem ref_offz {w:World}{A:oA9}{n c g:Nat}{xs:List Rat}{t:TypeId}(h:zcK w A n c xs)(hk:Blk w g t #[.slice none 0 0,.int .i64 0])(x y:Value):zcK ((w.setCell ⟨g,0,none⟩ x).setCell ⟨g,1,none⟩ y) A n c xs:=
 zhz h hk (zcf _ _ _ _) (zcx.of_far (zez _ _ _ _)) (λh5=>zpC h5 hk (zez _ _ _ _))
theorem zbc.slot {α:Type}{R:RP α}{w:World}{base:Nat}{t:TypeId}{v:Value}{Ls:List (List α)}{vs:List Value}{g i:Nat}{u:Value}(h:zbc R w base t v Ls vs)(hg:g<base)(hR2:∀{B:oA9} {m d:Nat} {L:List α},R w B m d L->R (w.setCell ⟨g,i,none⟩ u) B m d L):zbc R (w.setCell ⟨g,i,none⟩ u) base t v Ls vs:=by
 refine⟨⟨h.own.1,?_⟩,h.sl.block (λg' e=>Below.heap_setCell _ _ _ _ ?_),λj L hj=>?_⟩
 ·rcases h.own.2 with h1|⟨g',cap,cur,e1,e2,e3,e4⟩
  ·exact .inl h1
  ·exact .inr ⟨g',cap,cur,e1,e2,(Below.heap_setCell w ⟨g,i,none⟩ u g' (by show g'≠g;omega)).trans e3,e4⟩
 ·have:=(h.own.lt g' e).1
  show g'≠g
  omega
 ·obtain⟨B,d,hv,hw⟩:=h.num j L hj
  exact⟨B,d,hv,hR2 hw⟩
structure zcJ (w:World)(A:oA9)(n c m:Nat)(M:List (List Rat)):Prop where
 dims:zcH M n m
 fits:n<=c
 most:c<=9223372036854775807
 hn:n<=64
 hm:m<=64
 rows:zaF (zaB zca) w A n M
 ty:∀ad,A=some ad->TyAt w ad.block 55
theorem zcJ.keep {w w':World}{A:oA9}{n c m:Nat}{M:List (List Rat)}(h:zcJ w A n c m M)(hb:Below w.heap.size w w'):zcJ w' A n c m M:={h with rows:=h.rows.below (zay zau) hb,ty:=λad e=>(h.ty ad e).below hb}
theorem zcJ.nil (w:World)(m:Nat)(h:m<=64):zcJ w none 0 0 m []:=⟨zld m,Nat.le_refl _,by decide,by decide,h,zaF.nil w none,λad e=>by cases e⟩
theorem zcJ.offz {w:World}{A:oA9}{n c m g:Nat}{M:List (List Rat)}{t:TypeId}(h:zcJ w A n c m M)(hk:Blk w g t #[.slice none 0 0,.int .i64 0])(x y:Value)(ht:55≠t:=by decide):zcJ ((w.setCell ⟨g,0,none⟩ x).setCell ⟨g,1,none⟩ y) A n c m M:=
 { h with
  rows:=h.rows.off (λad e=>(h.ty ad e).ne hk ht) (zcx.of_far (zez _ _ _ _)) (λh3=>ref_offz h3 hk x y)
  ty:=λad e=>((h.ty ad e).set_ _ _ _).set_ _ _ _}
theorem zcJ.slot {w:World}{A:oA9}{n c m g:Nat}{M:List (List Rat)}{t:TypeId}{B:oA9}{p q:Nat}{z:Int}(h:zcJ w A n c m M)(hk:Blk w g t #[.slice B p q,.int .i64 z])(u:Value)(ht:55≠t:=by decide):zcJ (w.setCell ⟨g,0,none⟩ u) A n c m M:=
 { h with
  rows:=h.rows.off (λad e=>(h.ty ad e).ne hk ht) (zcx.of_far (zbF _ _ _)) (λh3=>zfe h3 hk (zcf _ _ _ _) (hk.cell 0) u)
  ty:=λad e=>(h.ty ad e).set_ _ _ _}
theorem zcJ.row {w wr:World}{A:oA9}{n c m:Nat}{M:List (List Rat)}(h:zcJ w A n c m M)(hb:Below w.heap.size w wr){i:Nat}(hi:i<n):∃(ad:Addr) (B:oA9) (d:Nat),A=some ad/\ad.block<w.heap.size/\wr.cell? (ad.add i)=some (.slice B m d)/\zcK wr B m d (M.getD i []):=
 h.rows.get (zay zau) hb hi (h.dims.row hi)
theorem zcJ.place {w wr:World}{A:oA9}{n c m:Nat}{M:List (List Rat)}(h:zcJ w A n c m M)(hb:Below w.heap.size w wr){i j:Nat}(hi:i<n)(hj:j<m):∃(ad:Addr) (B:oA9) (d:Nat),A=some ad/\ad.block<w.heap.size/\wr.cell? (ad.add i)=some (.slice B m d)/\
  ∃(ae:Addr) (b1:Bool) (B1:oA9) (m1 d1:Nat) (E1:oA9) (u1 v1:Nat),B=some ae/\ae.block<wr.heap.size/\wr.cell? (ae.add (j*3))=some (.bool b1)/\wr.cell? ⟨(ae.add (j*3)).block,(ae.add (j*3)).off+1,none⟩=some (.slice B1 m1 d1)/\wr.cell? ⟨(ae.add (j*3)).block,(ae.add (j*3)).off+2,none⟩=some (.slice E1 u1 v1)/\zca wr (atM M i j) b1 B1 m1 d1 E1 u1 v1:=by
 obtain⟨ad,B,d,e,h1,h2,h3⟩:=h.row hb hi
 obtain⟨ae,b1,B1,m1,d1,E1,u1,v1,e4,h4,h5,h6,h7,h8⟩:=h3.get (Below.refl _ _) hj
 exact⟨ad,B,d,e,h1,h2,ae,b1,B1,m1,d1,E1,u1,v1,e4,h4,h5,h6,h7,h8⟩
theorem zbc.refm {w:World}{base n m:Nat}{v:Value}{M:List (List Rat)}{vs:List Value}(h:zbc (zaB zca) w base 55 v M vs)(hd:zcH M n m)(hn:n<=64)(hm:m<=64):∃A c,v=.slice A n c/\zcJ w A n c m M:=by
 obtain⟨A,c,rfl,h1,h2,h3,h4⟩:=h.shape hd.rows
 refine⟨A,c,rfl,hd,h1,h2,hn,hm,h3,λad e=>?_⟩
 subst e
 rcases h.own.2 with⟨e1,h0⟩|⟨g,cap,cur,e1,e2,e3,e4⟩
 ·cases e1
 ·injection e1 with e1 _ _
  injection e1 with e1
  subst e1
  exact⟨cur,e3⟩
def zhs (w:World)(n m:Nat)(M:List (List Rat))(e:Ending)(w':World):Prop:=∃(A:oA9) (c:Nat),e=.returned (.agg #[.slice A n c,.int .i64 (m:Int)])/\zcJ w' A n c m M/\Below w.heap.size w w'
theorem grm2 {w W:World}{A:oA9}{n c m g:Nat}{M:List (List Rat)}(h:zcJ W A n c m M)(k:Blk W g 32 #[.slice none 0 0,.int .i64 0])(hB:Below w.heap.size w W)(hg:w.heap.size<=g):
  zhs w n m M (.returned (.agg #[.slice A n c,.int .i64 (m:Int)])) ((W.setCell ⟨g,0,none⟩ (.slice A n c)).setCell ⟨g,1,none⟩ (.int .i64 (m:Int))):=
 ⟨A,c,rfl,h.offz k _ _,bl2 _ _ hg hB⟩
theorem zlm:(Tryz.prog.info? 55).map (λi=>(i.zero,i.size,i.bytes))=some (some (.slice none 0 0),1,24):=by kernel_rfl
open Go Go.RowKit
set_option maxHeartbeats 16000000
set_option maxRecDepth 100000
set_option linter.unusedVariables false
set_option linter.unusedSimpArgs false
theorem zfx {α:Type}{L:List α}{k:Nat}{x:α}(h:L[k]?=some x):L.take (k+1)=L.take k++[x]:=by
 have hlt:=(List.getElem?_eq_some_iff.1 h).1
 rw [List.take_succ_eq_append_getElem hlt]
 congr 1
 rw [List.getElem?_eq_getElem hlt] at h
 injection h with h
 rw [h]
theorem colM_get {n k c:Nat}{M:List (List Rat)}(h:k<n):(zdD n M c)[k]?=some (atM M k c):=by
 unfold zdD
 rw [List.getElem?_map,List.getElem?_range h];rfl
theorem zmb {A:oA9}{n c m j:Nat}{M:List (List Rat)}{w:World}(h:zcJ w A n c m M)(hj:j<m):
  Calls Tryz.prog 23 #[.agg #[.slice A n c,.int .i64 (m:Int)],.int .i64 (j:Int)] w (zjU w n (zdD n M j)):=by
 obtain⟨i1',hi1,hz10,hz11,hz12⟩:=info_parts zkh
 have hn0:n<=64:=h.hn
 have hm0:m<=64:=h.hm
 have HS:Hid (∀k,k<n->(zdD n M j).take (k+1)=(zdD n M j).take k++[atM M k j]):=λk hk=>zfx (colM_get hk)
 have HL:Hid ((zdD n M j).length=n):=zeQ n M j
 obtain⟨C,hC⟩:∃C,zdD n M j=C:=⟨_,rfl⟩
 rw [hC] at HS HL⊢
 obtain⟨bx1,bx2,bz⟩:=zaA w 32 #[.slice A n c,.int .i64 (m:Int)]
 have HM:=lh9 (h.keep bx1)
 obtain⟨g0,g1⟩:=bx2.c2
 have HB0:=lh9 bx1
 have HK:=lh9 bx2
 have i3:(0:Int)<=(j:Int):=by omega
 have i4:(j:Int)<(m:Int):=by omega
 unfold zjU
 clear h hC bx1 bx2 bz
 go_enter Tryz.func23,Tryz.ntmps23
 go_wp2_with fail
 generalize w.alloc (.cells #[.slice A n c,.int .i64 (m:Int)] 32)=W1 at*
 have hB:=Below.refl W1.heap.size W1
 clear g0 g1
 go_loopg [5,6] (n+1) (λg sl ix wr=>∃(k:Nat) (v:Value) (vs:List Value),k<=n/\n<g+k/\ix=.int .i64 k/\v=sl/\zcT zca wr W1.heap.size 94 v (C.take k) vs/\Below W1.heap.size W1 wr)
 case atStart=>exact⟨0,_,_,Nat.zero_le _,by omega,rfl,rfl,zcT.nil _ _ _,hB⟩
 case round=>
  clear hB
  obtain⟨k,v,vs,hkn,hg,rfl,rfl,hon,hB⟩:=hrel
  obtain⟨g0,g1⟩:=(zae hB HK.out).c2
  by_cases hlt:k<n
  ·obtain⟨ad,B,d,rfl,-,hc0,ae,b1,B1,m1,d1,E1,u1,v1,rfl,-,hc1,hc2,hc3,hq⟩:=HM.out.place hB hlt hj
   have HSK:=lh9 (HS.out k hlt)
   have hd1:decide ((k:Int)<(n:Int))=true:=decide_eq_true (by omega)
   have hd1':decide (k<n)=true:=decide_eq_true hlt
   have i1:(0:Int)<=(k:Int):=by omega
   have i2:(k:Int)<(n:Int):=by omega
   have hlq:(C.take k).length=k:=by rw [List.length_take,HL.out];omega
   have HLQ:=lh9 hlq
   obtain⟨t1,t2,-⟩:=zaA wr 94 #[.bool b1,.slice B1 m1 d1,.slice E1 u1 v1]
   have hon1:=zcT.below zau hon t1
   have HX:=lh9 (zca.below hq t1)
   have HB:=lh9 (zac hB t1)
   have HCELL:=lh9 (zfR t2)
   have HONE:=lh9 (zig b1 B1 E1 m1 d1 u1 v1)
   have HNN:=lh9 (zif b1 B1 E1 m1 d1 u1 v1)
   have HZN:=lh9 zgW
   have HBS:=lh9 HB.out.size
   have hown:=hon1.own
   rw [HLQ.out] at hown
   have HOWN:=lh9 hown
   have HNOU:=lh9 hon1.nou
   have HOB:=lh9 (λr (h:v.ownBlock=some r)=>hon1.own.lt r h)
   have HON:=lh9 hon1
   clear hon hon1 hq hB t1 t2 hown hlq
   go_upto_region 5 with fail
   go_wp2_with (at_builtin;go_loud (refine zcR _ rfl (.tmp 14) (.tmp 23) 55 rfl W1.heap.size 94 i1' (.agg #[.bool false,.slice none 0 0,.slice none 0 0]) 3 56 Tryz.underlying55 hi1 hz10 hz11 hz12 rfl (by decide) v k vs rfl HOWN.out ⟨wr.heap.size,0,none⟩ 1 1 [.bool b1,.slice B1 m1 d1,.slice E1 u1 v1] rfl rfl HCELL.out HONE.out (by unfold maxLen;omega) (by omega) HBS.out HNOU.out HZN.out HNN.out ?_;intro v' w8 hown' hgrow hat hnou';have HON8:=lh9 (zcT.grow (n:=k+1) zau HON.out HX.out hown' (by rw [HLQ.out]) hgrow hnou');have HB8:=lh9 (HB.out.grown hgrow HBS.out (λr hr=>(HOB.out r hr).1));clear hown' hgrow hat hnou'))
   rw [<-HSK.out] at HON8
   go_roundg (n - k)
   case measure=>omega
   case rel=>exact⟨k+1,_,_,by omega,by omega,by go_num,rfl,HON8.out,HB8.out⟩
  ·have hk:k=n:=by omega
   subst hk
   have hd1:decide ((k:Int)<(k:Int))=false:=by simp
   have hd1':decide (k<k)=false:=by simp
   rw [List.take_of_length_le (by rw [HL.out];exact Nat.le_refl _)] at hon
   obtain⟨A1,c1,rfl,hv,hf⟩:=hon.shape
   rw [HL.out] at hv⊢
   have HV:=lh9 hv
   have HB1:=lh9 (zac HB0.out hB)
   clear hon hv hB hf
   go_wp2
   go_ret
   exact⟨A1,c1,rfl,HV.out,HB1.out⟩
open Go Go.RowKit
set_option maxHeartbeats 16000000
set_option maxRecDepth 100000
set_option linter.unusedVariables false
set_option linter.unusedSimpArgs false
def CondM (ok:Bool)(w:World)(A:oA9)(n c:Nat)(z:Int)(N m:Nat)(M:List (List Rat)):Prop:=ok=true->N=n/\(m:Int)=z/\zaI w A N c m M
theorem CondM.keep {ok:Bool}{w w':World}{A:oA9}{n c:Nat}{z:Int}{N m:Nat}{M:List (List Rat)}(h:CondM ok w A n c z N m M)(hb:Below w.heap.size w w'):CondM ok w' A n c z N m M:=λe=>⟨(h e).1,(h e).2.1,(h e).2.2.keep hb⟩
def CondV (ok:Bool)(w:World)(A:oA9)(n c N:Nat)(xs:List Rat):Prop:=ok=true->N=n/\zaK w A N c xs
theorem CondV.keep {ok:Bool}{w w':World}{A:oA9}{n c N:Nat}{xs:List Rat}(h:CondV ok w A n c N xs)(hb:Below w.heap.size w w'):CondV ok w' A n c N xs:=λe=>⟨(h e).1,(h e).2.keep hb⟩
theorem bne_b (b:Bool):(b !=b)=false:=by cases b<;>rfl
theorem zkq (b:Bool):(!(b==b))=false:=by cases b<;>rfl
