/- What this claim leans on. -/
import Derived.Test.YtcojjcjgbepicaaGreatDoorSBunD
import Derived.Deep.LoopGhost
import Derived.KernelRfl
import Derived.Lib.SliceRun
import Derived.LoopTactic
namespace Go.Proofs.YtcojjcjgbepicaaGreatDoor
open Go Go.RowKit
set_option maxHeartbeats 16000000
theorem infoI:(Tryz.prog.info? 3).map (λi=>(i.zero,i.size,i.bytes))=some (some (.int .i64 0),1,8):=by kernel_rfl
theorem zfV:(Tryz.prog.info? 161).map (λi=>(i.zero,i.size,i.bytes))=some (some (.int .u64 0),1,8):=by kernel_rfl
set_option maxRecDepth 100000
set_option linter.unusedVariables false
def TrimR (w:World)(B:Nat)(A:oA9)(x:Nat)(e:Ending)(w':World):Prop:=
 ∃(A':oA9) (c':Nat),e=.returned (.slice A' (dg 18446744073709551616 x).length c')/\zas w B 1 A' (dg 18446744073709551616 x).length (zax .u64 (dg 18446744073709551616 x))/\(dg 18446744073709551616 x).length<=c'/\c'<=9223372036854775807/\(A'=A\/A'=none)/\w=w'
theorem zfl (A:oA9)(n c B:Nat)(l:List Nat)(w:World)(hA:zas w B 1 A n (zax .u64 l))(hl:Dgs 18446744073709551616 l)(hc:n<=c)(hc':c<=9223372036854775807)(hn:n<=1099511627776):
  Calls Tryz.prog 188 #[.slice A n c] w (TrimR w B A (dv 18446744073709551616 l)):=by
 have HL:=lh9 hA.len_
 go_enter Tryz.func188,Tryz.ntmps188
 go_wp2
 go_loop [3] (λs=>∃m:Nat,m<=n/\s=.int .i64 m/\Hid (dv 18446744073709551616 (l.take m)=dv 18446744073709551616 l)) (λs=>(intOf s).toNat)
 case atStart=>exact⟨n,Nat.le_refl _,rfl,by show _=_;rw [List.take_of_length_le (by have:=HL.out;omega)]⟩
 case round=>
  obtain⟨m,hm,rfl,H⟩:=hrel
  by_cases hm0:m=0
  ·subst hm0
   have G:Hid (TrimR w B A (dv 18446744073709551616 l) (.returned (.slice none 0 0)) w):=by
    have e:dv 18446744073709551616 l=0:=by have:=H.out;simpa [dv] using this.symm
    rw [e]
    exact⟨none,0,rfl,zas.none_,Nat.le_refl _,by omega,.inr rfl,rfl⟩
   go_wp2
   go_ret
   exact G.out
  ·obtain⟨j,rfl⟩:∃j,m=j+1:=⟨m - 1,by omega⟩
   have hsrc:=hA.take_ hm
   rw [zpI] at hsrc
   obtain⟨ad,rfl,hadb,hcell⟩:=zdi hA (k:=j) (by omega)
   by_cases hz:l.getD j 0=0
   ·have HM:=lh9 ((zoN 18446744073709551616 (l:=l) (n:=j) (by have:=HL.out;omega) hz).symm.trans H.out)
    rw [hz] at hcell
    clear hz hsrc
    go_wp2
    go_round
    case rel=>exact⟨j,by omega,by go_num,HM⟩
    case measure=>simp only [intOf];omega
   ·have hz':(((l.getD j 0:Nat):Int)==0)=false:=beq_eq_false_iff_ne.2 (by omega)
    have G:Hid (TrimR w B (some ad) (dv 18446744073709551616 l) (.returned (.slice (some ad) (j+1) c)) w):=by
     have e:=dg_trim (by decide) hl (by have:=HL.out;omega) H.out (.inr hz)
     have e2:(dg 18446744073709551616 (dv 18446744073709551616 l)).length=j+1:=by rw [<-e,List.length_take];have:=HL.out;omega
     refine⟨some ad,c,by rw [e2],?_,by omega,hc',.inl rfl,rfl⟩
     rw [e2,<-e]
     exact hsrc
    obtain⟨d,hd⟩:∃d,l.getD j 0=d:=⟨_,rfl⟩
    rw [hd] at hcell hz'
    clear hz hd hsrc
    go_wp2
    go_ret
    exact G.out
theorem zmX (w:World)(l:List Nat)(hl:l=[]):zeU w 0 (zax .u64 l) (.returned (.slice none 0 0)) w:=by
 subst hl
 exact⟨none,0,rfl,zas.none_,Nat.le_refl _,⟨by omega,by intro ad e;cases e⟩,Below.refl _ _⟩
def zeZ (w:World)(n:Nat)(xs:List Value)(e:Ending)(w':World):Prop:=∃v,e=.returned v/\w'.ownsRow w.heap.size 161 1 v n xs/\Below w.heap.size w w'
theorem zfW (ad:Addr)(n c:Nat)(l:List Nat)(w:World)(hA:zas w w.heap.size 1 (some ad) n (zax .u64 l))(hn:n<=1099511627776):
  Calls Tryz.prog 186 #[.slice (some ad) n c] w (zeZ w n (zax .u64 l)):=by
 obtain⟨i0,hi0,hz0,hz1,hz2⟩:=info_parts zfV
 have q:∀(w:World) (a:oA9) (n c n' c':Nat),(binOp .eql 47 (.slice a n c) (.slice none n' c')).run Tryz.prog w=.ok (.bool a.isNone) w:=λw a n c n' c'=>Lib.run_eql_slice_nil w _ _ a n c n' c' Tryz.underlying47
 have hA1:∀o,zas (w.alloc o) w.heap.size 1 (some ad) n (zax .u64 l):=λo=>hA.alloc (Nat.le_refl _) o
 go_enter Tryz.func186,Tryz.ntmps186
 go_wp2_with (at_builtin;refine zgW _ rfl (.tmp 5) (.tmp 6) 47 rfl w.heap.size 161 i0 (.int .u64 0) 1 8 Tryz.underlying47 hi0 hz0 hz1 hz2 rfl (by decide) (.slice (some ⟨w.heap.size,0,none⟩) 0 0) 0 [] rfl (World.ownsRow_made w #[] 0 (Nat.le_refl _) (Nat.zero_le _) rfl) _ (some ad) n c (zax .u64 l) rfl (hA1 _) (zgU _ _) (by unfold maxLen;omega) (by omega) (by simp) ?_;intro v' w1 hown' hgrow hat)
 have hb':Below w.heap.size w w1:=((Below.refl _ w).alloc (Nat.le_refl _) _).grown hgrow (by simp) (λg hg=>by simp [Value.ownBlock] at hg;omega)
 have G:Hid (zeZ w n (zax .u64 l) (.returned v') w1):=⟨v',rfl,by simpa using hown',hb'⟩
 clear hown' hgrow hat hb'
 go_wp2
 go_ret
 exact G.out
theorem zjt (c:Nat)(w:World):Calls Tryz.prog 186 #[.slice none 0 c] w λe w'=>e=.returned (.slice none 0 0)/\w=w':=by
 have q:∀(w:World) (a:oA9) (n c n' c':Nat),(binOp .eql 47 (.slice a n c) (.slice none n' c')).run Tryz.prog w=.ok (.bool a.isNone) w:=λw a n c n' c'=>Lib.run_eql_slice_nil w _ _ a n c n' c' Tryz.underlying47
 go_enter Tryz.func186,Tryz.ntmps186
 go_wp2
 go_ret
 exact⟨rfl,rfl⟩
theorem zjT (A:oA9)(n c:Nat)(l:List Nat)(w:World)(hA:zas w w.heap.size 1 A n (zax .u64 l))(hn:n<=1099511627776):
  Calls Tryz.prog 186 #[.slice A n c] w (zeU w n (zax .u64 l)):=by
 rcases A with _|ad
 ·have q:∀(w:World) (a:oA9) (n c n' c':Nat),(binOp .eql 47 (.slice a n c) (.slice none n' c')).run Tryz.prog w=.ok (.bool a.isNone) w:=λw a n c n' c'=>Lib.run_eql_slice_nil w _ _ a n c n' c' Tryz.underlying47
  have hn0:n=0:=by
   rcases Nat.eq_zero_or_pos n with h|h
   ·exact h
   ·obtain⟨ad,e,_⟩:=hA.2 h
    cases e
  subst hn0
  have G:=lh9 (zmX w l (List.eq_nil_of_length_eq_zero hA.len_))
  go_enter Tryz.func186,Tryz.ntmps186
  go_wp2
  go_ret
  exact G.out
 ·exact(zfW ad n c l w hA hn).mono λe w' ⟨v,he,ho,hb⟩=>by rw [he];exact zkB ho hb
def zad (w:World)(x:Nat)(A:oA9)(n c:Nat):Prop:=zas w w.heap.size 1 A n (zax .u64 (dg 18446744073709551616 x))/\n<=c/\c<=9223372036854775807
theorem zad.len {w:World}{x:Nat}{A:oA9}{n c:Nat}(h:zad w x A n c):(dg 18446744073709551616 x).length=n:=h.1.len_
theorem zad.below {w w':World}{x:Nat}{A:oA9}{n c:Nat}(h:zad w x A n c)(hb:Below w.heap.size w w'):zad w' x A n c:=
 ⟨(h.1.below hb).more hb.size,h.2⟩
theorem zad.drewN {w:World}{x:Nat}{A:oA9}{n c:Nat}(h:zad w x A n c)(k:Nat):zad (w.drewN k) x A n c:=h
theorem zad.nat {w:World}{x:Nat}{A:oA9}{n c:Nat}(h:zad w x A n c):zfT w x (.agg #[.slice A n c]):=⟨A,n,c,rfl,h⟩
theorem zfT.words {w:World}{x:Nat}{v:Value}(h:zfT w x v):∃(A:oA9) (n c:Nat),v=.agg #[.slice A n c]/\zad w x A n c:=h
theorem zac {w w':World}{p:Addr}{v:Value}(hb:Below w.heap.size w w')(h:w.cell? p=some v):w'.cell? p=some v:=(hb.cell (World.block_lt_of_cell? w p h)).trans h
theorem zaa {w w1 w':World}(h:Below w.heap.size w w1)(hb:Below w1.heap.size w1 w'):Below w.heap.size w w':=h.trans (hb.mono h.size)
def wd (x k:Nat):Nat:=x / 18446744073709551616^k%18446744073709551616
theorem zcb (x k:Nat):wd x k<18446744073709551616:=Nat.mod_lt _ (by decide)
theorem zej (x k:Nat):(dg 18446744073709551616 x).getD k 0=wd x k:=by rw [zeL (by decide) (zcL (by decide) x),zdn (by decide)];rfl
theorem wd_above (x k:Nat)(h:(dg 18446744073709551616 x).length<=k):wd x k=0:=by
 rw [<-zej,List.getD_eq_getElem?_getD,List.getElem?_eq_none h];rfl
theorem zbz (x:Nat)(A:oA9)(n c:Nat)(w:World):Calls Tryz.prog 151 #[.agg #[.slice A n c]] w λe w'=>e=.returned (.int .i64 n)/\Below w.heap.size w w':=by
 go_enter Tryz.func151,Tryz.ntmps151
 go_wp2
 go_ret
 exact⟨rfl,(Below.refl _ _).alloc (Nat.le_refl _) _⟩
theorem zlV (A:oA9)(n c:Nat)(w:World):Calls Tryz.prog 154 #[.agg #[.slice A n c]] w λe w'=>e=.returned (.bool (decide (n=0)))/\Below w.heap.size w w':=by
 have e:((n:Int)==0)=decide (n=0):=by rw [Bool.eq_iff_iff];simp
 have E:=lh9 e
 clear e
 go_enter Tryz.func154,Tryz.ntmps154
 go_wp2
 go_ret
 exact⟨by rw [E.out];rfl,(Below.refl _ _).alloc (Nat.le_refl _) _⟩
theorem zkI (A:oA9)(n c:Nat)(k:Int)(w:World)(hk:k<0\/(n:Int)<=k):Calls Tryz.prog 172 #[.agg #[.slice A n c],.int .i64 k] w λe w'=>e=.returned (.int .u64 0)/\Below w.heap.size w w':=by
 by_cases h0:k<0
 ·clear hk
  go_enter Tryz.func172,Tryz.ntmps172
  go_wp2
  go_ret
  exact⟨rfl,(Below.refl _ _).alloc (Nat.le_refl _) _⟩
 ·have h1:(n:Int)<=k:=by omega
  clear hk
  go_enter Tryz.func172,Tryz.ntmps172
  go_wp2
  go_ret
  exact⟨rfl,(Below.refl _ _).alloc (Nat.le_refl _) _⟩
theorem zds (x:Nat)(A:oA9)(n c k:Nat)(w:World)(h:zad w x A n c):Calls Tryz.prog 172 #[.agg #[.slice A n c],.int .i64 k] w λe w'=>e=.returned (.int .u64 (wd x k:Nat))/\Below w.heap.size w w':=by
 by_cases hk:k<n
 ·obtain⟨hr,h1,h2⟩:=h
  obtain⟨ad,rfl,hadb,hc⟩:=zdi hr hk
  rw [zej] at hc
  obtain⟨d,hd⟩:∃d,wd x k=d:=⟨_,rfl⟩
  rw [hd] at hc⊢
  have hc':∀o,(w.alloc o).cell? (ad.add k)=some (.int .u64 d):=λo=>(World.cell?_alloc_lt w o _ (by rw [zao];exact hadb)).trans hc
  clear hd hr
  go_enter Tryz.func172,Tryz.ntmps172
  go_wp2
  go_ret
  exact⟨rfl,(Below.refl _ _).alloc (Nat.le_refl _) _⟩
 ·rw [wd_above x k (by rw [h.len];omega)]
  exact zkI A n c k w (.inr (by omega))
def zel (w:World)(A:oA9):Prop:=∀ad,A=some ad->w.heap.size<=ad.block
theorem zel.none_ (w:World):zel w none:=λ_ e=>by cases e
theorem zel.from_ {w w1:World}{A:oA9}(h:zel w1 A)(hb:Below w.heap.size w w1):zel w A:=λad e=>Nat.le_trans hb.size (h ad e)
def zaF (w:World)(x:Nat)(e:Ending)(w':World):Prop:=∃(A:oA9) (n c:Nat),e=.returned (.agg #[.slice A n c])/\zad w' x A n c/\Below w.heap.size w w'/\zel w A
theorem zaF.from_ {w w1 w':World}{x:Nat}{e:Ending}(h:zaF w1 x e w')(hb:Below w.heap.size w w1):zaF w x e w':=by
 obtain⟨A,n,c,he,hn,h3,h4⟩:=h
 exact⟨A,n,c,he,hn,hb.trans (h3.mono hb.size),h4.from_ hb⟩
theorem zcR {w:World}{A:oA9}{n c x:Nat}(h:zad w x A n c){p:Addr}(hp:∀ad,A=some ad->ad.block≠p.block)(u:Value):zad (w.setCell p u) x A n c:=by
 obtain⟨hr,h1,h2⟩:=h
 refine⟨⟨hr.1,λhn=>?_⟩,h1,h2⟩
 obtain⟨ad,e,hb,hc⟩:=hr.2 hn
 refine⟨ad,e,by simpa using hb,λj v hv=>?_⟩
 refine(World.cell?_setCell_other w p _ u (λe2=>hp ad e ?_)).trans (hc j v hv)
 have:=congrArg Addr.block e2
 rw [zao] at this
 first|exact this|exact this.symm
theorem zgC {w w2:World}{x n c:Nat}{A:oA9}(h:zad w2 x A n c)(hb:Below w.heap.size w w2){p:Addr}(hp:w.heap.size<=p.block)(hA:∀ad,A=some ad->ad.block≠p.block)(hf:zel w A)(u:Value):zaF w x (.returned (.agg #[.slice A n c])) (w2.setCell p u):=
 ⟨A,n,c,rfl,zcR h hA u,hb.setCell hp u,hf⟩
theorem zcN (A:oA9)(n c:Nat)(l:List Nat)(w:World)(hA:zas w w.heap.size 1 A n (zax .u64 l))(hl:Dgs 18446744073709551616 l)(hc:n<=c)(hc':c<=9223372036854775807)(hn:n<=1099511627776):
  Calls Tryz.prog 153 #[.slice A n c] w (zaF w (dv 18446744073709551616 l)):=by
 have hlen:(dg 18446744073709551616 (dv 18446744073709551616 l)).length<=1099511627776:=by
  have h1:=zct (b:=18446744073709551616) (by decide) _ _ (zcA hl)
  have:=hA.len_
  omega
 obtain⟨x,hx⟩:∃x,dv 18446744073709551616 l=x:=⟨_,rfl⟩
 have T:∀o,Hid (Calls Tryz.prog 188 #[.slice A n c] (w.alloc o) (TrimR (w.alloc o) w.heap.size A x)):=λo=>by
  have:=zfl A n c w.heap.size l (w.alloc o) (hA.alloc (Nat.le_refl _) o) hl hc hc' hn
  rw [hx] at this
  exact this
 have HT:=lh9 T
 rw [hx] at hlen⊢
 clear T hA hx
 go_enter Tryz.func153,Tryz.ntmps153
 go_wp2_with fail
 refine(HT.out _).out.mono ?_
 rintro e w1 ⟨A1,c1,rfl,hr1,h1,h2,_,rfl⟩
 obtain⟨L,hL⟩:∃L,dg 18446744073709551616 x=L:=⟨_,rfl⟩
 rw [hL] at hr1 h1 hlen
 have HL:=lh9 hL
 have hr2:=hr1.more (B':=(w.alloc (.cells #[.slice none 0 0] 49)).heap.size) (by simp)
 have C:=zjT A1 L.length c1 L _ hr2 hlen
 have HC:=lh9 C
 rw [hL]
 clear C hr1 hr2 h1 h2 hL
 go_wp2_with fail
 refine HC.out.mono ?_
 rintro e w2 ⟨A2,c2,rfl,hr3,h3,⟨h4,hfr⟩,hb2⟩
 have hf:w2.frozen? ⟨w.heap.size,0,none⟩=false:=by
  rw [hb2.frozen (p:=⟨w.heap.size,0,none⟩) (by simp)]
  exact(Blk.new w _ _).frozen 0
 have hcell:w2.cell? ⟨w.heap.size,0,none⟩=some (.slice none 0 0):=by
  rw [hb2.cell (p:=⟨w.heap.size,0,none⟩) (by simp)]
  exact(Blk.new w _ _).cell 0
 have G : Hid (zaF w x (.returned (.agg #[.slice A2 L.length c2])) (w2.setCell ⟨w.heap.size,0,none⟩ (.slice A2 L.length c2))) :=
  zgC ⟨by rw [HL.out];exact hr3,h3,h4⟩ (((Below.refl _ w).alloc (Nat.le_refl _) _).trans (hb2.mono (by simp))) (Nat.le_refl _) (λad e=>by have:=hfr ad e;simp at this;show ad.block≠w.heap.size;omega) (λad e=>by have:=hfr ad e;simp at this;omega) _
 clear hr3 hfr hb2
 go_wp2
 refine bodyPost_ret (v:=.agg #[.slice A2 L.length c2]) (by simp [results,Tryz.results153,go_sem,hcell]) rfl ?_
 exact G.out
theorem zdf (x:Nat)(A:oA9)(n c:Nat)(w:World)(h:zad w x A n c)(hn:n<=1099511627776):
  Calls Tryz.prog 150 #[.agg #[.slice A n c]] w (zmC w x):=by
 obtain⟨hr,h1,h2⟩:=h
 have hlen:=hr.len_
 have C:∀o,Calls Tryz.prog 186 #[.slice A n c] (w.alloc o) (zeU (w.alloc o) n (zax .u64 (dg 18446744073709551616 x))):=λo=>
  zjT A n c _ (w.alloc o) ((hr.alloc (Nat.le_refl _) o).more (by simp)) hn
 unfold zmC
 rw [hlen]
 obtain⟨L,hL⟩:∃L,zax .u64 (dg 18446744073709551616 x)=L:=⟨_,rfl⟩
 rw [hL] at C⊢
 have HC:=lh9 C
 clear C hr hlen hL
 go_enter Tryz.func150,Tryz.ntmps150
 go_wp2_with fail
 refine(HC.out _).mono ?_
 intro e w1 hg
 have G:=lh9 (hg.from_ ((Below.refl _ w).alloc (Nat.le_refl _) _))
 obtain⟨A1,c1,rfl,_,_,_,_⟩:=hg
 go_wp2
 go_ret
 exact G.out
