/- What this claim leans on. -/
import Derived.Test.YtghpdeciaaagnaaGreatDoorIBunD
import Derived.BigQuiet
import Derived.Deep.CutBlock
import Derived.Deep.DeepCutAuto
import Derived.Deep.LoopGhost
import Derived.Deep.RegionHeld3
import Derived.KernelRfl
import Derived.Lib.SliceRun
import Derived.LoopTactic
namespace Go.Proofs.YtghpdeciaaagnaaGreatDoor
open Go Go.RowKit
set_option maxHeartbeats 16000000
theorem infoI:(Tryz.prog.info? 3).map (λi=>(i.zero,i.size,i.bytes))=some (some (.int .i64 0),1,8):=by kernel_rfl
theorem zgx:(Tryz.prog.info? 160).map (λi=>(i.zero,i.size,i.bytes))=some (some (.int .u64 0),1,8):=by kernel_rfl
set_option maxRecDepth 100000
set_option linter.unusedVariables false
def TrimR (w:World)(B:Nat)(A:oA9)(x:Nat)(e:Ending)(w':World):Prop:=
 ∃(A':oA9) (c':Nat),e=.returned (.slice A' (dg 18446744073709551616 x).length c')/\zas w B 1 A' (dg 18446744073709551616 x).length (zaA .u64 (dg 18446744073709551616 x))/\(dg 18446744073709551616 x).length<=c'/\c'<=9223372036854775807/\(A'=A\/A'=none)/\w=w'
theorem zfH (A:oA9)(n c B:Nat)(l:List Nat)(w:World)(hA:zas w B 1 A n (zaA .u64 l))(hl:Dgs 18446744073709551616 l)(hc:n<=c)(hc':c<=9223372036854775807)(hn:n<=1099511627776):
  Calls Tryz.prog 191 #[.slice A n c] w (TrimR w B A (dv 18446744073709551616 l)):=by
 have HL:=lh9 hA.len_
 go_enter Tryz.func191,Tryz.ntmps191
 go_wp2
 go_loop [3] (λs=>∃m:Nat,m<=n/\s=.int .i64 m/\Hid (dv 18446744073709551616 (l.take m)=dv 18446744073709551616 l)) (λs=>(intOf s).toNat)
 case atStart=>exact⟨n,Nat.le_refl _,rfl,by show _=_;rw [List.take_of_length_le (by have:=HL.out;omega)]⟩
 case round=>
  obtain⟨m,hm,rfl,H⟩:=hrel
  by_cases hm0:m=0
  ·subst hm0
   have G:Hid (TrimR w B A (dv 18446744073709551616 l) (.returned (.slice none 0 0)) w):=by
    have e:dv 18446744073709551616 l=0:=by have:=H.out;simpa [dv] using this.symm
    rw [e]
    exact⟨none,0,rfl,zas.none_,Nat.le_refl _,by omega,.inr rfl,rfl⟩
   go_wp2
   go_ret
   exact G.out
  ·obtain⟨j,rfl⟩:∃j,m=j+1:=⟨m - 1,by omega⟩
   have hsrc:=hA.take_ hm
   rw [zrk] at hsrc
   obtain⟨ad,rfl,hadb,hcell⟩:=zdv hA (k:=j) (by omega)
   by_cases hz:l.getD j 0=0
   ·have HM:=lh9 ((zqp 18446744073709551616 (l:=l) (n:=j) (by have:=HL.out;omega) hz).symm.trans H.out)
    rw [hz] at hcell
    clear hz hsrc
    go_wp2
    go_round
    case rel=>exact⟨j,by omega,by go_num,HM⟩
    case measure=>simp only [intOf];omega
   ·have hz':(((l.getD j 0:Nat):Int)==0)=false:=beq_eq_false_iff_ne.2 (by omega)
    have G:Hid (TrimR w B (some ad) (dv 18446744073709551616 l) (.returned (.slice (some ad) (j+1) c)) w):=by
     have e:=dg_trim (by decide) hl (by have:=HL.out;omega) H.out (.inr hz)
     have e2:(dg 18446744073709551616 (dv 18446744073709551616 l)).length=j+1:=by rw [<-e,List.length_take];have:=HL.out;omega
     refine⟨some ad,c,by rw [e2],?_,by omega,hc',.inl rfl,rfl⟩
     rw [e2,<-e]
     exact hsrc
    obtain⟨d,hd⟩:∃d,l.getD j 0=d:=⟨_,rfl⟩
    rw [hd] at hcell hz'
    clear hz hd hsrc
    go_wp2
    go_ret
    exact G.out
theorem zom (w:World)(l:List Nat)(hl:l=[]):zfn w 0 (zaA .u64 l) (.returned (.slice none 0 0)) w:=by
 subst hl
 exact⟨none,0,rfl,zas.none_,Nat.le_refl _,⟨by omega,by intro ad e;cases e⟩,Below.refl _ _⟩
def zft (w:World)(n:Nat)(xs:List Value)(e:Ending)(w':World):Prop:=∃v,e=.returned v/\w'.ownsRow w.heap.size 160 1 v n xs/\Below w.heap.size w w'
theorem zgy (ad:Addr)(n c:Nat)(l:List Nat)(w:World)(hA:zas w w.heap.size 1 (some ad) n (zaA .u64 l))(hn:n<=1099511627776):
  Calls Tryz.prog 189 #[.slice (some ad) n c] w (zft w n (zaA .u64 l)):=by
 obtain⟨i0,hi0,hz0,hz1,hz2⟩:=info_parts zgx
 have q:∀(w:World) (a:oA9) (n c n' c':Nat),(binOp .eql 35 (.slice a n c) (.slice none n' c')).run Tryz.prog w=.ok (.bool a.isNone) w:=λw a n c n' c'=>Lib.run_eql_slice_nil w _ _ a n c n' c' Tryz.underlying35
 have hA1:∀o,zas (w.alloc o) w.heap.size 1 (some ad) n (zaA .u64 l):=λo=>hA.alloc (Nat.le_refl _) o
 go_enter Tryz.func189,Tryz.ntmps189
 go_wp2_with (at_builtin;refine zhF _ rfl (.tmp 5) (.tmp 6) 35 rfl w.heap.size 160 i0 (.int .u64 0) 1 8 Tryz.underlying35 hi0 hz0 hz1 hz2 rfl (by decide) (.slice (some ⟨w.heap.size,0,none⟩) 0 0) 0 [] rfl (World.ownsRow_made w #[] 0 (Nat.le_refl _) (Nat.zero_le _) rfl) _ (some ad) n c (zaA .u64 l) rfl (hA1 _) (zhD _ _) (by unfold maxLen;omega) (by omega) (by simp) ?_;intro v' w1 hown' hgrow hat)
 have hb':Below w.heap.size w w1:=((Below.refl _ w).alloc (Nat.le_refl _) _).grown hgrow (by simp) (λg hg=>by simp [Value.ownBlock] at hg;omega)
 have G:Hid (zft w n (zaA .u64 l) (.returned v') w1):=⟨v',rfl,by simpa using hown',hb'⟩
 clear hown' hgrow hat hb'
 go_wp2
 go_ret
 exact G.out
theorem zku (c:Nat)(w:World):Calls Tryz.prog 189 #[.slice none 0 c] w λe w'=>e=.returned (.slice none 0 0)/\w=w':=by
 have q:∀(w:World) (a:oA9) (n c n' c':Nat),(binOp .eql 35 (.slice a n c) (.slice none n' c')).run Tryz.prog w=.ok (.bool a.isNone) w:=λw a n c n' c'=>Lib.run_eql_slice_nil w _ _ a n c n' c' Tryz.underlying35
 go_enter Tryz.func189,Tryz.ntmps189
 go_wp2
 go_ret
 exact⟨rfl,rfl⟩
theorem zkV (A:oA9)(n c:Nat)(l:List Nat)(w:World)(hA:zas w w.heap.size 1 A n (zaA .u64 l))(hn:n<=1099511627776):
  Calls Tryz.prog 189 #[.slice A n c] w (zfn w n (zaA .u64 l)):=by
 rcases A with _|ad
 ·have q:∀(w:World) (a:oA9) (n c n' c':Nat),(binOp .eql 35 (.slice a n c) (.slice none n' c')).run Tryz.prog w=.ok (.bool a.isNone) w:=λw a n c n' c'=>Lib.run_eql_slice_nil w _ _ a n c n' c' Tryz.underlying35
  have hn0:n=0:=by
   rcases Nat.eq_zero_or_pos n with h|h
   ·exact h
   ·obtain⟨ad,e,_⟩:=hA.2 h
    cases e
  subst hn0
  have G:=lh9 (zom w l (List.eq_nil_of_length_eq_zero hA.len_))
  go_enter Tryz.func189,Tryz.ntmps189
  go_wp2
  go_ret
  exact G.out
 ·exact(zgy ad n c l w hA hn).mono λe w' ⟨v,he,ho,hb⟩=>by rw [he];exact zlI ho hb
def zad (w:World)(x:Nat)(A:oA9)(n c:Nat):Prop:=zas w w.heap.size 1 A n (zaA .u64 (dg 18446744073709551616 x))/\n<=c/\c<=9223372036854775807
theorem zad.len {w:World}{x:Nat}{A:oA9}{n c:Nat}(h:zad w x A n c):(dg 18446744073709551616 x).length=n:=h.1.len_
theorem zad.below {w w':World}{x:Nat}{A:oA9}{n c:Nat}(h:zad w x A n c)(hb:Below w.heap.size w w'):zad w' x A n c:=
 ⟨(h.1.below hb).more hb.size,h.2⟩
theorem zad.drewN {w:World}{x:Nat}{A:oA9}{n c:Nat}(h:zad w x A n c)(k:Nat):zad (w.drewN k) x A n c:=h
theorem zad.nat {w:World}{x:Nat}{A:oA9}{n c:Nat}(h:zad w x A n c):zgu w x (.agg #[.slice A n c]):=⟨A,n,c,rfl,h⟩
theorem zgu.words {w:World}{x:Nat}{v:Value}(h:zgu w x v):∃(A:oA9) (n c:Nat),v=.agg #[.slice A n c]/\zad w x A n c:=h
theorem zac {w w':World}{p:Addr}{v:Value}(hb:Below w.heap.size w w')(h:w.cell? p=some v):w'.cell? p=some v:=(hb.cell (World.block_lt_of_cell? w p h)).trans h
theorem zab {w w1 w':World}(h:Below w.heap.size w w1)(hb:Below w1.heap.size w1 w'):Below w.heap.size w w':=h.trans (hb.mono h.size)
def wd (x k:Nat):Nat:=x / 18446744073709551616^k%18446744073709551616
theorem zcp (x k:Nat):wd x k<18446744073709551616:=Nat.mod_lt _ (by decide)
theorem zeu (x k:Nat):(dg 18446744073709551616 x).getD k 0=wd x k:=by rw [zfc (by decide) (zcS (by decide) x),zdz (by decide)];rfl
theorem wd_above (x k:Nat)(h:(dg 18446744073709551616 x).length<=k):wd x k=0:=by
 rw [<-zeu,List.getD_eq_getElem?_getD,List.getElem?_eq_none h];rfl
theorem zbQ (x:Nat)(A:oA9)(n c:Nat)(w:World):Calls Tryz.prog 147 #[.agg #[.slice A n c]] w λe w'=>e=.returned (.int .i64 n)/\Below w.heap.size w w':=by
 go_enter Tryz.func147,Tryz.ntmps147
 go_wp2
 go_ret
 exact⟨rfl,(Below.refl _ _).alloc (Nat.le_refl _) _⟩
theorem zng (A:oA9)(n c:Nat)(w:World):Calls Tryz.prog 150 #[.agg #[.slice A n c]] w λe w'=>e=.returned (.bool (decide (n=0)))/\Below w.heap.size w w':=by
 have e:((n:Int)==0)=decide (n=0):=by rw [Bool.eq_iff_iff];simp
 have E:=lh9 e
 clear e
 go_enter Tryz.func150,Tryz.ntmps150
 go_wp2
 go_ret
 exact⟨by rw [E.out];rfl,(Below.refl _ _).alloc (Nat.le_refl _) _⟩
theorem zlO (A:oA9)(n c:Nat)(k:Int)(w:World)(hk:k<0\/(n:Int)<=k):Calls Tryz.prog 164 #[.agg #[.slice A n c],.int .i64 k] w λe w'=>e=.returned (.int .u64 0)/\Below w.heap.size w w':=by
 by_cases h0:k<0
 ·clear hk
  go_enter Tryz.func164,Tryz.ntmps164
  go_wp2
  go_ret
  exact⟨rfl,(Below.refl _ _).alloc (Nat.le_refl _) _⟩
 ·have h1:(n:Int)<=k:=by omega
  clear hk
  go_enter Tryz.func164,Tryz.ntmps164
  go_wp2
  go_ret
  exact⟨rfl,(Below.refl _ _).alloc (Nat.le_refl _) _⟩
theorem zdE (x:Nat)(A:oA9)(n c k:Nat)(w:World)(h:zad w x A n c):Calls Tryz.prog 164 #[.agg #[.slice A n c],.int .i64 k] w λe w'=>e=.returned (.int .u64 (wd x k:Nat))/\Below w.heap.size w w':=by
 by_cases hk:k<n
 ·obtain⟨hr,h1,h2⟩:=h
  obtain⟨ad,rfl,hadb,hc⟩:=zdv hr hk
  rw [zeu] at hc
  obtain⟨d,hd⟩:∃d,wd x k=d:=⟨_,rfl⟩
  rw [hd] at hc⊢
  have hc':∀o,(w.alloc o).cell? (ad.add k)=some (.int .u64 d):=λo=>(World.cell?_alloc_lt w o _ (by rw [zap];exact hadb)).trans hc
  clear hd hr
  go_enter Tryz.func164,Tryz.ntmps164
  go_wp2
  go_ret
  exact⟨rfl,(Below.refl _ _).alloc (Nat.le_refl _) _⟩
 ·rw [wd_above x k (by rw [h.len];omega)]
  exact zlO A n c k w (.inr (by omega))
def zew (w:World)(A:oA9):Prop:=∀ad,A=some ad->w.heap.size<=ad.block
theorem zew.none_ (w:World):zew w none:=λ_ e=>by cases e
theorem zew.from_ {w w1:World}{A:oA9}(h:zew w1 A)(hb:Below w.heap.size w w1):zew w A:=λad e=>Nat.le_trans hb.size (h ad e)
def zaO (w:World)(x:Nat)(e:Ending)(w':World):Prop:=∃(A:oA9) (n c:Nat),e=.returned (.agg #[.slice A n c])/\zad w' x A n c/\Below w.heap.size w w'/\zew w A
theorem zaO.from_ {w w1 w':World}{x:Nat}{e:Ending}(h:zaO w1 x e w')(hb:Below w.heap.size w w1):zaO w x e w':=by
 obtain⟨A,n,c,he,hn,h3,h4⟩:=h
 exact⟨A,n,c,he,hn,hb.trans (h3.mono hb.size),h4.from_ hb⟩
theorem zcY {w:World}{A:oA9}{n c x:Nat}(h:zad w x A n c){p:Addr}(hp:∀ad,A=some ad->ad.block≠p.block)(u:Value):zad (w.setCell p u) x A n c:=by
 obtain⟨hr,h1,h2⟩:=h
 refine⟨⟨hr.1,λhn=>?_⟩,h1,h2⟩
 obtain⟨ad,e,hb,hc⟩:=hr.2 hn
 refine⟨ad,e,by simpa using hb,λj v hv=>?_⟩
 refine(World.cell?_setCell_other w p _ u (λe2=>hp ad e ?_)).trans (hc j v hv)
 have:=congrArg Addr.block e2
 rw [zap] at this
 first|exact this|exact this.symm
theorem zhh {w w2:World}{x n c:Nat}{A:oA9}(h:zad w2 x A n c)(hb:Below w.heap.size w w2){p:Addr}(hp:w.heap.size<=p.block)(hA:∀ad,A=some ad->ad.block≠p.block)(hf:zew w A)(u:Value):zaO w x (.returned (.agg #[.slice A n c])) (w2.setCell p u):=
 ⟨A,n,c,rfl,zcY h hA u,hb.setCell hp u,hf⟩
theorem zcT (A:oA9)(n c:Nat)(l:List Nat)(w:World)(hA:zas w w.heap.size 1 A n (zaA .u64 l))(hl:Dgs 18446744073709551616 l)(hc:n<=c)(hc':c<=9223372036854775807)(hn:n<=1099511627776):
  Calls Tryz.prog 149 #[.slice A n c] w (zaO w (dv 18446744073709551616 l)):=by
 have hlen:(dg 18446744073709551616 (dv 18446744073709551616 l)).length<=1099511627776:=by
  have h1:=zcD (b:=18446744073709551616) (by decide) _ _ (zcL hl)
  have:=hA.len_
  omega
 obtain⟨x,hx⟩:∃x,dv 18446744073709551616 l=x:=⟨_,rfl⟩
 have T:∀o,Hid (Calls Tryz.prog 191 #[.slice A n c] (w.alloc o) (TrimR (w.alloc o) w.heap.size A x)):=λo=>by
  have:=zfH A n c w.heap.size l (w.alloc o) (hA.alloc (Nat.le_refl _) o) hl hc hc' hn
  rw [hx] at this
  exact this
 have HT:=lh9 T
 rw [hx] at hlen⊢
 clear T hA hx
 go_enter Tryz.func149,Tryz.ntmps149
 go_wp2_with fail
 refine(HT.out _).out.mono ?_
 rintro e w1 ⟨A1,c1,rfl,hr1,h1,h2,_,rfl⟩
 obtain⟨L,hL⟩:∃L,dg 18446744073709551616 x=L:=⟨_,rfl⟩
 rw [hL] at hr1 h1 hlen
 have HL:=lh9 hL
 have hr2:=hr1.more (B':=(w.alloc (.cells #[.slice none 0 0] 37)).heap.size) (by simp)
 have C:=zkV A1 L.length c1 L _ hr2 hlen
 have HC:=lh9 C
 rw [hL]
 clear C hr1 hr2 h1 h2 hL
 go_wp2_with fail
 refine HC.out.mono ?_
 rintro e w2 ⟨A2,c2,rfl,hr3,h3,⟨h4,hfr⟩,hb2⟩
 have hf:w2.frozen? ⟨w.heap.size,0,none⟩=false:=by
  rw [hb2.frozen (p:=⟨w.heap.size,0,none⟩) (by simp)]
  exact(Blk.new w _ _).frozen 0
 have hcell:w2.cell? ⟨w.heap.size,0,none⟩=some (.slice none 0 0):=by
  rw [hb2.cell (p:=⟨w.heap.size,0,none⟩) (by simp)]
  exact(Blk.new w _ _).cell 0
 have G : Hid (zaO w x (.returned (.agg #[.slice A2 L.length c2])) (w2.setCell ⟨w.heap.size,0,none⟩ (.slice A2 L.length c2))) :=
  zhh ⟨by rw [HL.out];exact hr3,h3,h4⟩ (((Below.refl _ w).alloc (Nat.le_refl _) _).trans (hb2.mono (by simp))) (Nat.le_refl _) (λad e=>by have:=hfr ad e;simp at this;show ad.block≠w.heap.size;omega) (λad e=>by have:=hfr ad e;simp at this;omega) _
 clear hr3 hfr hb2
 go_wp2
 refine bodyPost_ret (v:=.agg #[.slice A2 L.length c2]) (by simp [results,Tryz.results149,go_sem,hcell]) rfl ?_
 exact G.out
theorem zdo (x:Nat)(A:oA9)(n c:Nat)(w:World)(h:zad w x A n c)(hn:n<=1099511627776):
  Calls Tryz.prog 146 #[.agg #[.slice A n c]] w (znP w x):=by
 obtain⟨hr,h1,h2⟩:=h
 have hlen:=hr.len_
 have C:∀o,Calls Tryz.prog 189 #[.slice A n c] (w.alloc o) (zfn (w.alloc o) n (zaA .u64 (dg 18446744073709551616 x))):=λo=>
  zkV A n c _ (w.alloc o) ((hr.alloc (Nat.le_refl _) o).more (by simp)) hn
 unfold znP
 rw [hlen]
 obtain⟨L,hL⟩:∃L,zaA .u64 (dg 18446744073709551616 x)=L:=⟨_,rfl⟩
 rw [hL] at C⊢
 have HC:=lh9 C
 clear C hr hlen hL
 go_enter Tryz.func146,Tryz.ntmps146
 go_wp2_with fail
 refine(HC.out _).mono ?_
 intro e w1 hg
 have G:=lh9 (hg.from_ ((Below.refl _ w).alloc (Nat.le_refl _) _))
 obtain⟨A1,c1,rfl,_,_,_,_⟩:=hg
 go_wp2
 go_ret
 exact G.out
theorem zpz (x:Int)(w:World):Calls Tryz.prog 193 #[.int .i64 x] w λe w'=>e=.returned (.bool false)/\w=w':=by
 go_enter Tryz.func193,Tryz.ntmps193
 go_wp2
 go_ret
 exact⟨by simp,rfl⟩
theorem zpA (x:Int)(w:World):Calls Tryz.prog 194 #[.int .u64 x] w λe w'=>e=.returned (.bool false)/\w=w':=by
 go_enter Tryz.func194,Tryz.ntmps194
 go_wp2
 go_ret
 exact⟨by simp,rfl⟩
theorem zmB (x y:Nat)(w:World):Calls Tryz.prog 156 #[.int .i64 x,.int .i64 y] w λe w'=>e=.returned (.int .i64 (zcC x y))/\w=w':=by
 have C:x<y/\Hid (zcC x y= -1)\/y<x/\Hid (zcC x y=1)\/¬ x<y/\¬ y<x/\Hid (zcC x y=0):=by
  rcases Nat.lt_trichotomy x y with h|h|h
  ·exact .inl ⟨h,zei h⟩
  ·exact .inr (.inr ⟨by omega,by omega,zgc h⟩)
  ·exact .inr (.inl ⟨h,zeX h⟩)
 rcases C with⟨h,H⟩|⟨h,H⟩|⟨h,h',H⟩
 all_goals
  go_enter Tryz.func156,Tryz.ntmps156
  go_wp2_with fail
  refine(zpz _ _).mono ?_
  rintro e w' ⟨rfl,rfl⟩
  go_wp2_with fail
  refine(zpz _ _).mono ?_
  rintro e w' ⟨rfl,rfl⟩
  go_wp2
  go_ret
  exact⟨by rw [H.out];rfl,rfl⟩
theorem zmD (x y:Nat)(w:World):Calls Tryz.prog 157 #[.int .u64 x,.int .u64 y] w λe w'=>e=.returned (.int .i64 (zcC x y))/\w=w':=by
 have C:x<y/\Hid (zcC x y= -1)\/y<x/\Hid (zcC x y=1)\/¬ x<y/\¬ y<x/\Hid (zcC x y=0):=by
  rcases Nat.lt_trichotomy x y with h|h|h
  ·exact .inl ⟨h,zei h⟩
  ·exact .inr (.inr ⟨by omega,by omega,zgc h⟩)
  ·exact .inr (.inl ⟨h,zeX h⟩)
 rcases C with⟨h,H⟩|⟨h,H⟩|⟨h,h',H⟩
 all_goals
  go_enter Tryz.func157,Tryz.ntmps157
  go_wp2_with fail
  refine(zpA _ _).mono ?_
  rintro e w' ⟨rfl,rfl⟩
  go_wp2_with fail
  refine(zpA _ _).mono ?_
  rintro e w' ⟨rfl,rfl⟩
  go_wp2
  go_ret
  exact⟨by rw [H.out];rfl,rfl⟩
def zcH (w:World)(z:Int)(e:Ending)(w':World):Prop:=e=.returned (.int .i64 z)/\Below w.heap.size w w'
theorem zoD (x y:Nat)(A D:oA9)(m c d:Nat)(w:World)(hA:zad w x A m c)(hD:zad w y D m d)(hm:m<=1099511627776):
  Calls Tryz.prog 101 #[.agg #[.slice A m c],.agg #[.slice D m d]] w (zcH w (zcC x y)):=by
 have hln:=hA.len
 have hlm:=hD.len
 have H0:Hid (x / 18446744073709551616^m=y / 18446744073709551616^m):=by
  show _=_
  rw [Nat.div_eq_of_lt (by rw [<-hln];exact zbM (by decide) x),Nat.div_eq_of_lt (by rw [<-hlm];exact zbM (by decide) y)]
 have hrA:=hA.1
 have hrD:=hD.1
 clear hln hlm hA hD
 go_enter Tryz.func101,Tryz.ntmps101
 go_wp2_with fail
 have hb0:Below w.heap.size w ((w.alloc (.cells #[.slice A m c] 37)).alloc (.cells #[.slice D m d] 37)).drew:=(((Below.refl _ w).alloc (Nat.le_refl _) _).alloc (by simp) _).drew
 go_region_held3 (fun w' => Below w.heap.size w w' ∧ w'.cell? ⟨w.heap.size,0,none⟩ = some (.slice A m c) ∧ w'.cell? ⟨w.heap.size + 1,0,none⟩ = some (.slice D m d))
  (first|go_keep|(go_split_ands;exact⟨zab (by assumption) hb,zac hb (by first|assumption|simp),zac hb (by first|assumption|simp)⟩))
  (first
    |(go_at_call 147;refine(zbQ x _ _ _ _).mono ?_;rintro e w' ⟨rfl,hb⟩))
 rename_i hH
 obtain⟨hB,h1,h2⟩:=hH
 clear hb
 go_wp2_with fail
 refine(zbQ x _ _ _ _).mono ?_
 rintro e w2 ⟨rfl,hb2⟩
 have hB2:=zab hB hb2
 have g1:=zac hb2 h1
 have g2:=zac hb2 h2
 clear hB hb2 h1 h2 hb0
 go_wp2_with fail
 go_loopg [5,6] (m+1) (λg i _ wr=>∃(k:Nat),k<=m/\i=.int .i64 ((k:Int) - 1)/\Hid (x / 18446744073709551616^k=y / 18446744073709551616^k)/\k<g/\Below w.heap.size w wr/\wr.cell? ⟨w.heap.size,0,none⟩=some (.slice A m c)/\wr.cell? ⟨w.heap.size+1,0,none⟩=some (.slice D m d))
 case atStart=>exact⟨m,Nat.le_refl _,rfl,H0,Nat.lt_succ_self _,hB2,g1,g2⟩
 case round=>
  obtain⟨k,hk,rfl,H,hg,hB,g1,g2⟩:=hrel
  have rA:=hrA.below hB
  have rD:=hrD.below hB
  by_cases hk0:k=0
  ·subst hk0
   have C:=lh9 (zgc (x:=x) (y:=y) (by have:=H.out;simpa using this))
   go_wp2
   go_ret
   exact⟨by rw [C.out];rfl,hB⟩
  ·obtain⟨j,rfl⟩:∃j,k=j+1:=⟨k - 1,by omega⟩
   obtain⟨ad,rfl,hadb,h1⟩:=zdv rA (k:=j) (by omega)
   obtain⟨ae,rfl,haeb,h2⟩:=zdv rD (k:=j) (by omega)
   rw [zeu] at h1 h2
   have L1:=lh9 (λh=>zob (b:=18446744073709551616) H.out h)
   have L2:=lh9 (λh=>zob (b:=18446744073709551616) H.out.symm h)
   have L3:=lh9 (λh=>cmp_eq (b:=18446744073709551616) H.out h)
   obtain⟨p,hp⟩:∃p,wd x j=p:=⟨_,rfl⟩
   obtain⟨r,hr⟩:∃p,wd y j=p:=⟨_,rfl⟩
   unfold wd at hp hr
   rw [hp,hr] at L1 L2 L3
   rw [show wd x j=p from hp] at h1
   rw [show wd y j=r from hr] at h2
   clear hp hr
   have CC:=lh9 (λw=>zmD p r w)
   have K:(zcC p r= -1/\Hid (zcC x y= -1))\/(zcC p r=0/\Hid (x / 18446744073709551616^j=y / 18446744073709551616^j))\/(zcC p r=1/\Hid (zcC x y=1)):=by
    rcases Nat.lt_trichotomy p r with h|h|h
    ·exact .inl ⟨zei h,zei (L1.out h)⟩
    ·exact .inr (.inl ⟨zgc h,L3.out h⟩)
    ·exact .inr (.inr ⟨zeX h,zeX (L2.out h)⟩)
   clear L1 L2 L3
   rcases K with⟨e,C⟩|⟨e,M⟩|⟨e,C⟩
   ·rw [e] at CC
    clear e
    go_wp2_with fail
    have s1:(0:Int)<=(j:Int):=by omega
    have s2:(j:Int)<(m:Int):=by omega
    go_quiet ((go_at_call 157;exact zdq (CC.out _)))
    go_wp2
    go_ret
    exact⟨by rw [C.out];rfl,zeV hB _⟩
   ·rw [e] at CC
    clear e
    go_wp2_with fail
    have s1:(0:Int)<=(j:Int):=by omega
    have s2:(j:Int)<(m:Int):=by omega
    go_quiet ((go_at_call 157;exact zdq (CC.out _)))
    go_wp2
    go_roundg (j+1)
    case measure=>omega
    case rel=>exact⟨j,by omega,by go_num,M,by omega,zeV hB _,g1,g2⟩
   ·rw [e] at CC
    clear e
    go_wp2_with fail
    have s1:(0:Int)<=(j:Int):=by omega
    have s2:(j:Int)<(m:Int):=by omega
    go_quiet ((go_at_call 157;exact zdq (CC.out _)))
    go_wp2
    go_ret
    exact⟨by rw [C.out];rfl,zeV hB _⟩
theorem zfe (x y:Nat)(A D:oA9)(n m c d:Nat)(w:World)(hA:zad w x A n c)(hD:zad w y D m d)(hn:n<=1099511627776)(hm:m<=1099511627776):
  Calls Tryz.prog 101 #[.agg #[.slice A n c],.agg #[.slice D m d]] w (zcH w (zcC x y)):=by
 have hln:=hA.len
 have hlm:=hD.len
 by_cases hne:n=m
 ·subst hne
  exact zoD x y A D n c d w hA hD hn
 ·have C:zcC n m=zcC x y:=by
   rcases Nat.lt_trichotomy n m with h|h|h
   ·rw [zei h,zei (zjw (b:=18446744073709551616) (by decide) (by omega))]
   ·exact absurd h hne
   ·rw [zeX h,zeX (zjw (b:=18446744073709551616) (by decide) (by omega))]
  have hne':((n:Int)==(m:Int))=false:=by simp;omega
  have CC:∀w,Calls Tryz.prog 156 #[.int .i64 n,.int .i64 m] w λe w'=>e=.returned (.int .i64 (zcC x y))/\w=w':=λw=>by rw [<-C];exact zmB n m w
  have HC:=lh9 CC
  obtain⟨z,hz⟩:∃z,zcC x y=z:=⟨_,rfl⟩
  rw [hz] at HC⊢
  clear hln hlm hne C CC hz
  go_enter Tryz.func101,Tryz.ntmps101
  go_wp2_with fail
  have hb0:Below w.heap.size w ((w.alloc (.cells #[.slice A n c] 37)).alloc (.cells #[.slice D m d] 37)).drew:=(((Below.refl _ w).alloc (Nat.le_refl _) _).alloc (by simp) _).drew
  go_region_held3 (fun w' => Below w.heap.size w w' ∧ w'.cell? ⟨w.heap.size,0,none⟩ = some (.slice A n c) ∧ w'.cell? ⟨w.heap.size + 1,0,none⟩ = some (.slice D m d))
   (first|go_keep|(go_split_ands;exact⟨zab (by assumption) hb,zac hb (by first|assumption|simp),zac hb (by first|assumption|simp)⟩))
   (first
     |(go_at_call 147;refine(zbQ x _ _ _ _).mono ?_;rintro e w' ⟨rfl,hb⟩))
  rename_i hH
  obtain⟨hB,h1,h2⟩:=hH
  clear hb hb0
  go_wp2_with fail
  have hb0:Below w.heap.size w w'.drew:=hB.drew
  go_region_held3 (fun w' => Below w.heap.size w w' ∧ w'.cell? ⟨w.heap.size,0,none⟩ = some (.slice A n c) ∧ w'.cell? ⟨w.heap.size + 1,0,none⟩ = some (.slice D m d))
   (first|go_keep|(go_split_ands;exact⟨zab (by assumption) hb,zac hb (by first|assumption|simp),zac hb (by first|assumption|simp)⟩))
   (first
     |(go_at_call 147;refine(zbQ x _ _ _ _).mono ?_;rintro e w' ⟨rfl,hb⟩)
     |(go_at_call 156;refine(HC.out _).mono ?_;rintro e w' ⟨rfl,rfl⟩))
  obtain⟨hB,h1,h2⟩:=‹Below w.heap.size w _/\_›
  go_wp2
  go_ret
  exact⟨rfl,hB⟩
set_option maxRecDepth 100000 in
theorem zqh (hi lo y:Int)(h0:0<hi)(h1:hi<y)(hy:y<18446744073709551616)(hl:Wd lo)(w:World):
  Calls Tryz.prog 234 #[.int .u64 hi,.int .u64 lo,.int .u64 y] w λe w'=>e=.returned (.tuple #[.int .u64 (divQ hi lo y),.int .u64 (divR hi lo y)])/\w=w':=by
 obtain⟨hl0,hl1⟩:=hl
 have H:=lh9 (lead64 y (by unfold Wd;omega) w)
 obtain⟨s,hs0,hs,hY0,hY1⟩:=zna y (by omega) hy
 rw [hs0] at H
 clear hs0
 obtain⟨hU0,hU1,hUV⟩:=dg_norm hi lo y s hs (by omega) h1 hl0 hl1
 have hdiv:=dg_shift (hi*18446744073709551616+lo) y (2^s) (Int.pow_pos (by decide))
 obtain⟨Y,hYe⟩:∃Y,y*2^s=Y:=⟨_,rfl⟩
 have hlow:lo / 2^(64 - s)<2^s:=by
  refine Int.ediv_lt_of_lt_mul (Int.pow_pos (by decide)) ?_
  rw [<-Int.pow_add,show s+(64 - s)=64 from by omega];simpa using hl1
 have hlow0:0<=lo / 2^(64 - s):=Int.ediv_nonneg hl0 (Int.le_of_lt (Int.pow_pos (by decide)))
 have hhs:0<=hi*2^s:=Int.mul_nonneg (by omega) (Int.le_of_lt (Int.pow_pos (by decide)))
 have hor:=or_join hi (lo / 2^(64 - s)) s (by omega) (by omega) hlow0 hlow hs
 have hwr:IntKind.u64.wrap (hi*2^s)=hi*2^s:=by rw [IntKind.wrap_u64];omega
 obtain⟨U,hUe⟩:∃U,hi*2^s+lo / 2^(64 - s)=U:=⟨_,rfl⟩
 obtain⟨V,hVe⟩:∃V,lo*2^s%18446744073709551616=V:=⟨_,rfl⟩
 have hV:0<=V/\V<18446744073709551616:=by omega
 have E1:Hid (IntKind.u64.wrap (y*2^s)=Y):=by rw [hYe,IntKind.wrap_u64];show _%_=_;omega
 have E3:Hid (bits .or .u64 (IntKind.u64.wrap (hi*2^s)) (lo / 2^(64 - s))=U):=by rw [hwr,hor];exact hUe
 have E4:Hid (IntKind.u64.wrap (lo*2^s)=V):=by rw [IntKind.wrap_u64];exact hVe
 have E2:Hid (bits .and .u64 Y 4294967295=Y%4294967296):=and_low32 Y (by omega) (by omega)
 have E5:Hid (bits .and .u64 V 4294967295=V%4294967296):=and_low32 V (by omega) (by omega)
 rw [hYe] at hY0 hY1 hU1 hdiv
 rw [hUe] at hU0 hU1 hUV
 rw [hVe] at hUV
 obtain⟨hV0,hV1⟩:=hV
 have hd2:=dq_two U V Y hU0 hU1
 have D1:=Dig.start (u:=V / 4294967296) hU0 hU1 hY0 hY1 (by omega) (by omega)
 have b1:=D1.low
 have b2:=D1.q_hi
 have b3:=D1.sum
 have hq0:0<=U / (Y / 4294967296):=Int.ediv_nonneg hU0 (by omega)
 have hq1:0<=U / (Y / 4294967296)*(Y / 4294967296):=Int.mul_nonneg hq0 (by omega)
 have hA:2147483648<=Y / 4294967296:=by omega
 have hr32:U - U / (Y / 4294967296)*(Y / 4294967296)<4294967296:=by
  have hm:=Int.mul_ediv_add_emod U (Y / 4294967296)
  have hlt:=Int.emod_lt_of_pos U (show 0<Y / 4294967296 by omega)
  rw [Int.mul_comm] at hm
  omega
 have bQ1:=zgH (U:=U) (u:=V / 4294967296) (Y:=Y) hU0 hU1 (by omega) (by omega)
 have bT:=zlE (U:=U) (u:=V / 4294967296) (Y:=Y) (by omega)
 have e6:=zpr (U:=U) (u:=V / 4294967296) (Y:=Y) (by omega) hY1
 obtain⟨Q1,hQ1⟩:∃q,dgQ U (V / 4294967296) Y=q:=⟨_,rfl⟩
 obtain⟨T,hT⟩:∃q,dgR U (V / 4294967296) Y=q:=⟨_,rfl⟩
 rw [hT] at bT e6 hd2
 rw [hQ1] at bQ1 e6 hd2
 obtain⟨hT0,hT1⟩:=bT
 obtain⟨hQ10,hQ11⟩:=bQ1
 have D2:=Dig.start (u:=V%4294967296) hT0 hT1 hY0 hY1 (by omega) (by omega)
 have c1:=D2.low
 have c2:=D2.q_hi
 have hp0:0<=T / (Y / 4294967296):=Int.ediv_nonneg hT0 (by omega)
 have hp1:0<=T / (Y / 4294967296)*(Y / 4294967296):=Int.mul_nonneg hp0 (by omega)
 have ht32:T - T / (Y / 4294967296)*(Y / 4294967296)<4294967296:=by
  have hm:=Int.mul_ediv_add_emod T (Y / 4294967296)
  have hlt:=Int.emod_lt_of_pos T (show 0<Y / 4294967296 by omega)
  rw [Int.mul_comm] at hm
  omega
 have bQ0:=zgH (U:=T) (u:=V%4294967296) (Y:=Y) hT0 hT1 (by omega) (by omega)
 have bT0:=zlE (U:=T) (u:=V%4294967296) (Y:=Y) (by omega)
 have e7:=zpr (U:=T) (u:=V%4294967296) (Y:=Y) (by omega) hY1
 obtain⟨Q0,hQ0⟩:∃q,dgQ T (V%4294967296) Y=q:=⟨_,rfl⟩
 obtain⟨T0,hT0e⟩:∃q,dgR T (V%4294967296) Y=q:=⟨_,rfl⟩
 rw [hT0e] at bT0 e7 hd2
 rw [hQ0] at bQ0 e7 hd2
 obtain⟨hT00,hT01⟩:=bT0
 obtain⟨hQ00,hQ01⟩:=bQ0
 have E6:Hid (IntKind.u64.wrap (IntKind.u64.wrap (IntKind.u64.wrap (U*4294967296)+V / 4294967296) - IntKind.u64.wrap (Q1*Y))=T):=by
  rw [IntKind.wrap_u64,IntKind.wrap_u64,IntKind.wrap_u64,IntKind.wrap_u64];exact e6
 have E7:Hid (IntKind.u64.wrap (IntKind.u64.wrap (IntKind.u64.wrap (T*4294967296)+V%4294967296) - IntKind.u64.wrap (Q0*Y))=T0):=by
  rw [IntKind.wrap_u64,IntKind.wrap_u64,IntKind.wrap_u64,IntKind.wrap_u64];exact e7
 have FQ:Hid (Q1*4294967296+Q0=divQ hi lo y):=by
  unfold divQ;show _=_;rw [hd2.1,hUV];exact hdiv.1
 have FR:Hid (T0 / 2^s=divR hi lo y):=by
  unfold divR;show _=_;rw [hd2.2,hUV];exact hdiv.2
 have HD1:=lh9 D1
 have HD2:=lh9 D2
 have HQ1:=lh9 hQ1
 have HQ0:=lh9 hQ0
 clear hdiv hUV hd2 hYe hUe hVe hor hwr b3 D1 D2 hlow hlow0 hhs e6 e7 hQ1 hQ0 hT hT0e
 have z1:(y==0)=false:=beq_eq_false_iff_ne.2 (by omega)
 have z2:(hi==0)=false:=beq_eq_false_iff_ne.2 (by omega)
 have z3:decide (y<=hi)=false:=by simp;omega
 go_enter Tryz.func234,Tryz.ntmps234
 go_upto_block 0 with(first|(go_at_call 235;refine H.out.mono ?_;rintro e w' ⟨rfl,rfl⟩)|simp only [E1.out,E2.out,E3.out,E4.out,E5.out])
 clear E1 E2 E3 E4 E5 H
 go_cut [15,16] (λq _ wc=>q=.int .u64 Q1/\wc=w)
 case first=>
  go_wp2_with fail
  go_loopg [15,16] 4294967298 (λk q r wr=>∃q0 r0:Int,q=.int .u64 q0/\r=.int .u64 r0/\Dig U (V / 4294967296) Y q0 r0/\r0<4294967296/\q0<k/\wr=w)
  case atStart=>exact⟨_,_,rfl,rfl,HD1.out,hr32,by omega,rfl⟩
  case round=>
   obtain⟨q,r,rfl,rfl,hd,hr,hk,rfl⟩:=hrel
   obtain⟨g0,g1,g2,g3,g4⟩:=hd.room hU0 hU1 (by omega) (by omega) hr
   by_cases ht:4294967296<=q\/4294967296*r+V / 4294967296<q*(Y%4294967296)
   ·have hd':=hd.down hU0 hU1 hY0 (by omega) (by omega) ht
    have hq0:=(zgH (U:=U) (u:=V / 4294967296) (Y:=Y) hU0 hU1 (by omega) (by omega)).1
    have hl':=hd'.q_lo
    have hq':=hd.q_hi
    have hq1:1<=q:=by omega
    go_wp2
    all_goals first
     |(go_meet;exact⟨congrArg (Value.int .u64) ((hd'.past hY0 (by omega) (by omega) (by omega)).trans HQ1.out),rfl⟩)
     | (go_roundg (gk - 1)
        case measure=>omega
        case rel=>exact⟨_,_,rfl,rfl,hd',by omega,by omega,rfl⟩)
   ·go_wp2
    go_meet
    exact⟨congrArg (Value.int .u64) ((hd.done hY0 (by omega)).trans HQ1.out),rfl⟩
 case rest=>
  obtain⟨rfl,rfl⟩:=hcut
  go_upto_block 2 with(simp only [E6.out])
  clear E6
  go_cut [18,16] (λq _ wd=>q=.int .u64 Q0/\wd=wc)
  case first=>
   go_wp2_with fail
   go_loopg [18,16] 4294967298 (λk q r wr=>∃q0 r0:Int,q=.int .u64 q0/\r=.int .u64 r0/\Dig T (V%4294967296) Y q0 r0/\r0<4294967296/\q0<k/\wr=wc)
   case atStart=>exact⟨_,_,rfl,rfl,HD2.out,ht32,by omega,rfl⟩
   case round=>
    obtain⟨q,r,rfl,rfl,hd,hr,hk,rfl⟩:=hrel
    obtain⟨g0,g1,g2,g3,g4⟩:=hd.room hT0 hT1 (by omega) (by omega) hr
    by_cases ht:4294967296<=q\/4294967296*r+V%4294967296<q*(Y%4294967296)
    ·have hd':=hd.down hT0 hT1 hY0 (by omega) (by omega) ht
     have hq0:=(zgH (U:=T) (u:=V%4294967296) (Y:=Y) hT0 hT1 (by omega) (by omega)).1
     have hl':=hd'.q_lo
     have hq':=hd.q_hi
     have hq1:1<=q:=by omega
     go_wp2
     all_goals first
      |(go_meet;exact⟨congrArg (Value.int .u64) ((hd'.past hY0 (by omega) (by omega) (by omega)).trans HQ0.out),rfl⟩)
      | (go_roundg (gk - 1)
         case measure=>omega
         case rel=>exact⟨_,_,rfl,rfl,hd',by omega,by omega,rfl⟩)
    ·go_wp2
     go_meet
     exact⟨congrArg (Value.int .u64) ((hd.done hY0 (by omega)).trans HQ0.out),rfl⟩
  case rest=>
   obtain⟨rfl,rfl⟩:=hcut
   go_wp2_with (simp only [E7.out])
   simp only [FQ.out,FR.out]
   go_ret2
   exact⟨rfl,rfl⟩
theorem zmH (lo y:Int)(h1:0<y)(hy:y<18446744073709551616)(hl:Wd lo)(w:World):
  Calls Tryz.prog 234 #[.int .u64 0,.int .u64 lo,.int .u64 y] w λe w'=>e=.returned (.tuple #[.int .u64 (divQ 0 lo y),.int .u64 (divR 0 lo y)])/\∃n,w'=w.drewN n:=by
 obtain⟨hl0,hl1⟩:=hl
 have z1:(y==0)=false:=beq_eq_false_iff_ne.2 (by omega)
 have z3:decide (y<=0)=false:=by simp;omega
 have q0:0<=lo / y:=Int.ediv_nonneg hl0 (by omega)
 have q1:lo / y<18446744073709551616:=Int.lt_of_le_of_lt (Int.ediv_le_self y hl0) hl1
 have r0:0<=lo%y:=Int.emod_nonneg _ (by omega)
 have r1:lo%y<18446744073709551616:=Int.lt_trans (Int.emod_lt_of_pos _ h1) hy
 have FQ:Hid (lo / y=divQ 0 lo y):=by unfold divQ;show _=_;simp
 have FR:Hid (lo%y=divR 0 lo y):=by unfold divR;show _=_;simp
 go_enter Tryz.func234,Tryz.ntmps234
 go_wp2
 go_quiet (fail)
 go_wp2
 simp only [FQ.out,FR.out]
 go_ret2
 exact⟨rfl,_,rfl⟩
theorem div64 (hi lo y:Int)(h0:Wd hi)(h1:hi<y)(hy:y<18446744073709551616)(hl:Wd lo)(w:World):
  Calls Tryz.prog 234 #[.int .u64 hi,.int .u64 lo,.int .u64 y] w λe w'=>e=.returned (.tuple #[.int .u64 (divQ hi lo y),.int .u64 (divR hi lo y)])/\∃n,w'=w.drewN n:=by
 by_cases hz:hi=0
 ·subst hz
  exact zmH lo y h1 hy hl w
 ·refine(zqh hi lo y (by have:=h0.1;omega) h1 hy hl w).mono ?_
  rintro e w' ⟨rfl,rfl⟩
  exact⟨rfl,0,rfl⟩
theorem zmo (hi lo y:Int)(h0:Wd hi)(h1:hi<y)(hy:y<18446744073709551616)(hl:Wd lo)(w:World):
  Calls Tryz.prog 226 #[.int .u64 hi,.int .u64 lo,.int .u64 y] w λe w'=>e=.returned (.tuple #[.int .u64 (divQ hi lo y),.int .u64 (divR hi lo y),.bool true])/\∃n,w'=w.drewN n:=by
 have H:=lh9 (div64 hi lo y h0 h1 hy hl w)
 have z1:decide (y<=hi)=false:=by simp;omega
 go_enter Tryz.func226,Tryz.ntmps226
 go_wp2_with (go_at_call 234;refine H.out.mono ?_;rintro e w' ⟨rfl,n,rfl⟩)
 go_ret3
 exact⟨rfl,n,rfl⟩
theorem znI (hi lo y:Int)(h1:y<=hi)(w:World):
  Calls Tryz.prog 226 #[.int .u64 hi,.int .u64 lo,.int .u64 y] w λe w'=>e=.returned (.tuple #[.int .u64 0,.int .u64 0,.bool false])/\w=w':=by
 have z1:decide (y<=hi)=true:=by simp;omega
 go_enter Tryz.func226,Tryz.ntmps226
 go_wp2
 go_ret3
 exact⟨rfl,rfl⟩
