/- What this claim leans on. -/
import Derived.Test.YtghpdeciaaagnaaGreatDoorQBunD
import Derived.BigQuiet
import Derived.Deep.CutBlock
import Derived.Deep.DeepCutAuto
import Derived.Deep.LoopGhost
import Derived.Deep.RegionHeld3
import Derived.KernelRfl
import Derived.Lib.SliceRun
import Derived.LoopTactic
namespace Go.Proofs.YtghpdeciaaagnaaGreatDoor
open Go Go.RowKit Go.Proofs.Tryz
set_option maxHeartbeats 16000000
theorem infoI:(prog.info? 3).map (λi=>(i.zero,i.size,i.bytes))=some (some (.int .i64 0),1,8):=kr9
theorem zgD:(prog.info? 160).map (λi=>(i.zero,i.size,i.bytes))=some (some (.int .u64 0),1,8):=kr9
set_option maxRecDepth 100000
set_option linter.unusedVariables false
def TrimR (w:World)(B:Nat)(A:oA9)(x:Nat)(e:Ending)(w':World):Prop:=
 ∃(A':oA9) (c':Nat),e=.returned (.slice A' (dg 18446744073709551616 x).length c')/\zaw w B 1 A' (dg 18446744073709551616 x).length (zaF .u64 (dg 18446744073709551616 x))/\(dg 18446744073709551616 x).length<=c'/\c'<=9223372036854775807/\(A'=A\/A'=none)/\w=w'
theorem zfT (A:oA9)(n c B:Nat)(l:List Nat)(w:World)(hA:zaw w B 1 A n (zaF .u64 l))(hl:Dgs 18446744073709551616 l)(hc:n<=c)(f:c<=9223372036854775807)(hn:n<=1099511627776):
  Calls prog 191 #[.slice A n c] w (TrimR w B A (dv 18446744073709551616 l)):=by
 have HL:=lh9 hA.len_;go_enter func191,ntmps191;go_wp2
 go_loop [3] (λs=>∃m:Nat,m<=n/\s=.int .i64 m/\Hid (dv 18446744073709551616 (l.take m)=dv 18446744073709551616 l)) (λs=>(intOf s).toNat)
 case atStart=>exact⟨n,Nat.le_refl _,rfl,by show _=_;rw [List.take_of_length_le (by have:=HL.out;omega)]⟩
 case round=>
  obtain⟨m,hm,rfl,H⟩:=hrel;by_cases hm0:m=0
  ·subst hm0;have G:Hid (TrimR w B A (dv 18446744073709551616 l) (.returned (.slice none 0 0)) w):=by
    have e:dv 18446744073709551616 l=0:=by have:=H.out;simpa [dv] using this.symm
    rw [e];exact⟨none,0,rfl,zaw.none_,Nat.le_refl _,om9,.inr rfl,rfl⟩
   go_wp2;go_ret;exact G.out
  ·obtain⟨j,rfl⟩:∃j,m=j+1:=⟨m - 1,om9⟩;have a:=hA.take_ hm;rw [zrv] at a;obtain⟨ad,rfl,hadb,b⟩:=zdy hA (k:=j) om9;by_cases hz:l.getD j 0=0
   ·have HM:=lh9 ((zqs 18446744073709551616 (l:=l) (n:=j) (by have:=HL.out;omega) hz).symm.trans H.out);rw [hz] at b;clear hz a;go_wp2
    go_round
    case rel=>exact⟨j,om9,by go_num,HM⟩
    case measure=>simp only [intOf];omega
   ·have g:(((l.getD j 0:Nat):Int)==0)=false:=beq_eq_false_iff_ne.2 om9;have G:Hid (TrimR w B (some ad) (dv 18446744073709551616 l) (.returned (.slice (some ad) (j+1) c)) w):=by
     have e:=dg_trim de9 hl (by have:=HL.out;omega) H.out (.inr hz);have e2:(dg 18446744073709551616 (dv 18446744073709551616 l)).length=j+1:=by rw [<-e,List.length_take];have:=HL.out;omega
     refine⟨some ad,c,by rw [e2],?_,om9,f,.inl rfl,rfl⟩;rw [e2,<-e];exact a
    obtain⟨d,hd⟩:∃d,l.getD j 0=d:=⟨_,rfl⟩;rw [hd] at b g;clear hz hd a;go_wp2;go_ret;exact G.out
theorem zoj (w:World)(l:List Nat)(hl:l=[]):zfA w 0 (zaF .u64 l) (.returned (.slice none 0 0)) w:=by
 subst hl;exact⟨none,0,rfl,zaw.none_,Nat.le_refl _,⟨om9,by intro ad e;cases e⟩,Below.refl _ _⟩
def zfG (w:World)(n:Nat)(xs:List Value)(e:Ending)(w':World):Prop:=∃v,e=.returned v/\w'.ownsRow w.heap.size 160 1 v n xs/\Below w.heap.size w w'
theorem zgE (ad:Addr)(n c:Nat)(l:List Nat)(w:World)(hA:zaw w w.heap.size 1 (some ad) n (zaF .u64 l))(hn:n<=1099511627776):
  Calls prog 189 #[.slice (some ad) n c] w (zfG w n (zaF .u64 l)):=by
 obtain⟨i0,j,k,m,r⟩:=info_parts zgD;have q:∀(w:World) (a:oA9) (n c n' c':Nat),(binOp .eql 35 (.slice a n c) (.slice none n' c')).run prog w=.ok (.bool a.isNone) w:=λw a n c n' c'=>Lib.run_eql_slice_nil w _ _ a n c n' c' underlying35;have h:∀o,zaw (w.alloc o) w.heap.size 1 (some ad) n (zaF .u64 l):=λo=>hA.alloc (Nat.le_refl _) o;go_enter func189,ntmps189;go_wp2_with (at_builtin;refine zeF _ rfl (.tmp 5) (.tmp 6) 35 rfl w.heap.size 160 i0 (.int .u64 0) 1 8 underlying35 j k m r rfl de9 (.slice (some ⟨w.heap.size,0,none⟩) 0 0) 0 [] rfl (World.ownsRow_made w #[] 0 (Nat.le_refl _) (Nat.zero_le _) rfl) _ (some ad) n c (zaF .u64 l) rfl (h _) (zhF _ _) (by unfold maxLen;omega) om9 si9 ?_;intro v' w1 d b i);have f:Below w.heap.size w w1:=((Below.refl _ w).alloc (Nat.le_refl _) _).grown b si9 (λg hg=>by simp [Value.ownBlock] at hg;omega);have G:Hid (zfG w n (zaF .u64 l) (.returned v') w1):=⟨v',rfl,by simpa using d,f⟩;clear d b i f;go_wp2;go_ret;exact G.out
theorem zkf (c:Nat)(w:World):Calls prog 189 #[.slice none 0 c] w λe w'=>e=.returned (.slice none 0 0)/\w=w':=by
 have q:∀(w:World) (a:oA9) (n c n' c':Nat),(binOp .eql 35 (.slice a n c) (.slice none n' c')).run prog w=.ok (.bool a.isNone) w:=λw a n c n' c'=>Lib.run_eql_slice_nil w _ _ a n c n' c' underlying35;go_enter func189,ntmps189;go_wp2;go_ret;exact⟨rfl,rfl⟩
theorem zkE (A:oA9)(n c:Nat)(l:List Nat)(w:World)(hA:zaw w w.heap.size 1 A n (zaF .u64 l))(hn:n<=1099511627776):
  Calls prog 189 #[.slice A n c] w (zfA w n (zaF .u64 l)):=by
 rcases A with _|ad
 ·have q:∀(w:World) (a:oA9) (n c n' c':Nat),(binOp .eql 35 (.slice a n c) (.slice none n' c')).run prog w=.ok (.bool a.isNone) w:=λw a n c n' c'=>Lib.run_eql_slice_nil w _ _ a n c n' c' underlying35;have b:n=0:=by
   rcases Nat.eq_zero_or_pos n with h|h
   ·exact h
   ·obtain⟨ad,e,_⟩:=hA.2 h;cases e
  subst b;have G:=lh9 (zoj w l (List.eq_nil_of_length_eq_zero hA.len_));go_enter func189,ntmps189;go_wp2;go_ret;exact G.out
 ·exact(zgE ad n c l w hA hn).mono λe w' ⟨v,he,ho,hb⟩=>by rw [he];exact zlu ho hb
def zad (w:World)(x:Nat)(A:oA9)(n c:Nat):Prop:=zaw w w.heap.size 1 A n (zaF .u64 (dg 18446744073709551616 x))/\n<=c/\c<=9223372036854775807
theorem zad.len {w:World}{x:Nat}{A:oA9}{n c:Nat}(h:zad w x A n c):(dg 18446744073709551616 x).length=n:=h.1.len_
theorem zad.below {w w':World}{x:Nat}{A:oA9}{n c:Nat}(h:zad w x A n c)(hb:Below w.heap.size w w'):zad w' x A n c:=
 ⟨(h.1.below hb).more hb.size,h.2⟩
theorem zad.drewN {w:World}{x:Nat}{A:oA9}{n c:Nat}(h:zad w x A n c)(k:Nat):zad (w.drewN k) x A n c:=h
theorem zad.nat {w:World}{x:Nat}{A:oA9}{n c:Nat}(h:zad w x A n c):zgC w x (.agg #[.slice A n c]):=⟨A,n,c,rfl,h⟩
theorem zgC.words {w:World}{x:Nat}{v:Value}(h:zgC w x v):∃(A:oA9) (n c:Nat),v=.agg #[.slice A n c]/\zad w x A n c:=h
theorem zac {w w':World}{p:Addr}{v:Value}(hb:Below w.heap.size w w')(h:w.cell? p=some v):w'.cell? p=some v:=(hb.cell (World.block_lt_of_cell? w p h)).trans h
theorem zac2 {w w':World}{p0:Addr}{v0:Value}{p1:Addr}{v1:Value}(hb:Below w.heap.size w w')(h0:w.cell? p0=some v0)(h1:w.cell? p1=some v1):w'.cell? p0=some v0/\w'.cell? p1=some v1:=⟨zac hb h0,zac hb h1⟩
theorem zac3 {w w':World}{p0:Addr}{v0:Value}{p1:Addr}{v1:Value}{p2:Addr}{v2:Value}(hb:Below w.heap.size w w')(h0:w.cell? p0=some v0)(h1:w.cell? p1=some v1)(h2:w.cell? p2=some v2):w'.cell? p0=some v0/\w'.cell? p1=some v1/\w'.cell? p2=some v2:=⟨zac hb h0,zac hb h1,zac hb h2⟩
theorem zac4 {w w':World}{p0:Addr}{v0:Value}{p1:Addr}{v1:Value}{p2:Addr}{v2:Value}{p3:Addr}{v3:Value}(hb:Below w.heap.size w w')(h0:w.cell? p0=some v0)(h1:w.cell? p1=some v1)(h2:w.cell? p2=some v2)(h3:w.cell? p3=some v3):w'.cell? p0=some v0/\w'.cell? p1=some v1/\w'.cell? p2=some v2/\w'.cell? p3=some v3:=⟨zac hb h0,zac hb h1,zac hb h2,zac hb h3⟩
theorem zac6 {w w':World}{p0:Addr}{v0:Value}{p1:Addr}{v1:Value}{p2:Addr}{v2:Value}{p3:Addr}{v3:Value}{p4:Addr}{v4:Value}{p5:Addr}{v5:Value}(hb:Below w.heap.size w w')(h0:w.cell? p0=some v0)(h1:w.cell? p1=some v1)(h2:w.cell? p2=some v2)(h3:w.cell? p3=some v3)(h4:w.cell? p4=some v4)(h5:w.cell? p5=some v5):w'.cell? p0=some v0/\w'.cell? p1=some v1/\w'.cell? p2=some v2/\w'.cell? p3=some v3/\w'.cell? p4=some v4/\w'.cell? p5=some v5:=⟨zac hb h0,zac hb h1,zac hb h2,zac hb h3,zac hb h4,zac hb h5⟩
theorem zac7 {w w':World}{p0:Addr}{v0:Value}{p1:Addr}{v1:Value}{p2:Addr}{v2:Value}{p3:Addr}{v3:Value}{p4:Addr}{v4:Value}{p5:Addr}{v5:Value}{p6:Addr}{v6:Value}(hb:Below w.heap.size w w')(h0:w.cell? p0=some v0)(h1:w.cell? p1=some v1)(h2:w.cell? p2=some v2)(h3:w.cell? p3=some v3)(h4:w.cell? p4=some v4)(h5:w.cell? p5=some v5)(h6:w.cell? p6=some v6):w'.cell? p0=some v0/\w'.cell? p1=some v1/\w'.cell? p2=some v2/\w'.cell? p3=some v3/\w'.cell? p4=some v4/\w'.cell? p5=some v5/\w'.cell? p6=some v6:=⟨zac hb h0,zac hb h1,zac hb h2,zac hb h3,zac hb h4,zac hb h5,zac hb h6⟩
theorem zaa {w w1 w':World}(h:Below w.heap.size w w1)(hb:Below w1.heap.size w1 w'):Below w.heap.size w w':=h.trans (hb.mono h.size)
def wd (x k:Nat):Nat:=x / 18446744073709551616^k%18446744073709551616
theorem zcs (x k:Nat):wd x k<18446744073709551616:=Nat.mod_lt _ de9
theorem zeK (x k:Nat):(dg 18446744073709551616 x).getD k 0=wd x k:=by rw [zfl de9 (zcY de9 x),zdF de9];rfl
theorem wd_above (x k:Nat)(h:(dg 18446744073709551616 x).length<=k):wd x k=0:=by
 rw [<-zeK,List.getD_eq_getElem?_getD,List.getElem?_eq_none h];rfl
theorem zbS (x:Nat)(A:oA9)(n c:Nat)(w:World):Calls prog 147 #[.agg #[.slice A n c]] w λe w'=>e=.returned (.int .i64 n)/\Below w.heap.size w w':=by
 go_enter func147,ntmps147;go_wp2;go_ret;exact⟨rfl,(Below.refl _ _).alloc (Nat.le_refl _) _⟩
theorem znf (A:oA9)(n c:Nat)(w:World):Calls prog 150 #[.agg #[.slice A n c]] w λe w'=>e=.returned (.bool (decide (n=0)))/\Below w.heap.size w w':=by
 have e:((n:Int)==0)=decide (n=0):=by rw [Bool.eq_iff_iff];simp
 have E:=lh9 e;clear e;go_enter func150,ntmps150;go_wp2;go_ret;exact⟨by rw [E.out];rfl,(Below.refl _ _).alloc (Nat.le_refl _) _⟩
theorem zlC (A:oA9)(n c:Nat)(k:Int)(w:World)(hk:k<0\/(n:Int)<=k):Calls prog 164 #[.agg #[.slice A n c],.int .i64 k] w λe w'=>e=.returned (.int .u64 0)/\Below w.heap.size w w':=by
 by_cases h0:k<0
 ·clear hk;go_enter func164,ntmps164;go_wp2;go_ret;exact⟨rfl,(Below.refl _ _).alloc (Nat.le_refl _) _⟩
 ·have h1:(n:Int)<=k:=om9;clear hk;go_enter func164,ntmps164;go_wp2;go_ret;exact⟨rfl,(Below.refl _ _).alloc (Nat.le_refl _) _⟩
theorem zdL (x:Nat)(A:oA9)(n c k:Nat)(w:World)(h:zad w x A n c):Calls prog 164 #[.agg #[.slice A n c],.int .i64 k] w λe w'=>e=.returned (.int .u64 (wd x k:Nat))/\Below w.heap.size w w':=by
 by_cases hk:k<n
 ·obtain⟨hr,h1,h2⟩:=h;obtain⟨ad,rfl,a,hc⟩:=zdy hr hk;rw [zeK] at hc;obtain⟨d,hd⟩:∃d,wd x k=d:=⟨_,rfl⟩;rw [hd] at hc⊢;have hc':∀o,(w.alloc o).cell? (ad.add k)=some (.int .u64 d):=λo=>(World.cell?_alloc_lt w o _ (by rw [zah];exact a)).trans hc;clear hd hr;go_enter func164,ntmps164;go_wp2;go_ret;exact⟨rfl,(Below.refl _ _).alloc (Nat.le_refl _) _⟩
 ·rw [wd_above x k (by rw [h.len];omega)];exact zlC A n c k w (.inr om9)
def zeM (w:World)(A:oA9):Prop:=∀ad,A=some ad->w.heap.size<=ad.block
theorem zeM.none_ (w:World):zeM w none:=λ_ e=>by cases e
theorem zeM.from_ {w w1:World}{A:oA9}(h:zeM w1 A)(hb:Below w.heap.size w w1):zeM w A:=λad e=>Nat.le_trans hb.size (h ad e)
def zaS (w:World)(x:Nat)(e:Ending)(w':World):Prop:=∃(A:oA9) (n c:Nat),e=.returned (.agg #[.slice A n c])/\zad w' x A n c/\Below w.heap.size w w'/\zeM w A
theorem zaS.from_ {w w1 w':World}{x:Nat}{e:Ending}(h:zaS w1 x e w')(hb:Below w.heap.size w w1):zaS w x e w':=by
 obtain⟨A,n,c,he,hn,h3,h4⟩:=h;exact⟨A,n,c,he,hn,hb.trans (h3.mono hb.size),h4.from_ hb⟩
theorem zdd {w:World}{A:oA9}{n c x:Nat}(h:zad w x A n c){p:Addr}(hp:∀ad,A=some ad->ad.block≠p.block)(u:Value):zad (w.setCell p u) x A n c:=by
 obtain⟨hr,h1,h2⟩:=h;refine⟨⟨hr.1,λhn=>?_⟩,h1,h2⟩;obtain⟨ad,e,hb,hc⟩:=hr.2 hn;refine⟨ad,e,by simpa using hb,λj v hv=>?_⟩;refine(World.cell?_setCell_other w p _ u (λe2=>hp ad e ?_)).trans (hc j v hv);have:=congrArg Addr.block e2;rw [zah] at this
 first|exact this|exact this.symm
theorem zhj {w w2:World}{x n c:Nat}{A:oA9}(h:zad w2 x A n c)(hb:Below w.heap.size w w2){p:Addr}(hp:w.heap.size<=p.block)(hA:∀ad,A=some ad->ad.block≠p.block)(hf:zeM w A)(u:Value):zaS w x (.returned (.agg #[.slice A n c])) (w2.setCell p u):=
 ⟨A,n,c,rfl,zdd h hA u,hb.setCell hp u,hf⟩
theorem zcZ (A:oA9)(n c:Nat)(l:List Nat)(w:World)(hA:zaw w w.heap.size 1 A n (zaF .u64 l))(hl:Dgs 18446744073709551616 l)(hc:n<=c)(k:c<=9223372036854775807)(hn:n<=1099511627776):
  Calls prog 149 #[.slice A n c] w (zaS w (dv 18446744073709551616 l)):=by
 have a:(dg 18446744073709551616 (dv 18446744073709551616 l)).length<=1099511627776:=by
  have h1:=zcH (b:=18446744073709551616) de9 _ _ (zcP hl);have:=hA.len_;omega
 obtain⟨x,hx⟩:∃x,dv 18446744073709551616 l=x:=⟨_,rfl⟩;have T:∀o,Hid (Calls prog 191 #[.slice A n c] (w.alloc o) (TrimR (w.alloc o) w.heap.size A x)):=λo=>by
  have:=zfT A n c w.heap.size l (w.alloc o) (hA.alloc (Nat.le_refl _) o) hl hc k hn;rw [hx] at this;exact this
 have HT:=lh9 T;rw [hx] at a⊢;clear T hA hx;go_enter func149,ntmps149;go_wp2_with fail;refine(HT.out _).out.mono ?_;rintro e w1 ⟨A1,c1,rfl,h,h1,h2,_,rfl⟩;obtain⟨L,hL⟩:∃L,dg 18446744073709551616 x=L:=⟨_,rfl⟩;rw [hL] at h h1 a;have HL:=lh9 hL;have i:=h.more (B':=(w.alloc (.cells #[.slice none 0 0] 37)).heap.size) si9;have C:=zkE A1 L.length c1 L _ i a;have HC:=lh9 C;rw [hL];clear C h i h1 h2 hL;go_wp2_with fail;refine HC.out.mono ?_;rintro e w2 ⟨A2,c2,rfl,j,h3,⟨h4,g⟩,d⟩;have hf:w2.frozen? ⟨w.heap.size,0,none⟩=false:=by
  rw [d.frozen (p:=⟨w.heap.size,0,none⟩) si9];exact(Blk.new w _ _).frozen 0
 have f:w2.cell? ⟨w.heap.size,0,none⟩=some (.slice none 0 0):=by
  rw [d.cell (p:=⟨w.heap.size,0,none⟩) si9];exact(Blk.new w _ _).cell 0
 have G : Hid (zaS w x (.returned (.agg #[.slice A2 L.length c2])) (w2.setCell ⟨w.heap.size,0,none⟩ (.slice A2 L.length c2))) :=
  zhj ⟨by rw [HL.out];exact j,h3,h4⟩ (((Below.refl _ w).alloc (Nat.le_refl _) _).trans (d.mono si9)) (Nat.le_refl _) (λad e=>by have:=g ad e;simp at this;show ad.block≠w.heap.size;omega) (λad e=>by have:=g ad e;simp at this;omega) _
 clear j g d;go_wp2;refine bodyPost_ret (v:=.agg #[.slice A2 L.length c2]) (by simp [results,results149,go_sem,f]) rfl ?_;exact G.out
theorem zds (x:Nat)(A:oA9)(n c:Nat)(w:World)(h:zad w x A n c)(hn:n<=1099511627776):
  Calls prog 146 #[.agg #[.slice A n c]] w (znO w x):=by
 obtain⟨hr,h1,h2⟩:=h;have a:=hr.len_;have C:∀o,Calls prog 189 #[.slice A n c] (w.alloc o) (zfA (w.alloc o) n (zaF .u64 (dg 18446744073709551616 x))):=λo=>
  zkE A n c _ (w.alloc o) ((hr.alloc (Nat.le_refl _) o).more si9) hn
 unfold znO;rw [a];obtain⟨L,hL⟩:∃L,zaF .u64 (dg 18446744073709551616 x)=L:=⟨_,rfl⟩;rw [hL] at C⊢;have HC:=lh9 C;clear C hr a hL;go_enter func146,ntmps146;go_wp2_with fail;refine(HC.out _).mono ?_;intro e w1 hg;have G:=lh9 (hg.from_ ((Below.refl _ w).alloc (Nat.le_refl _) _));obtain⟨A1,c1,rfl,_,_,_,_⟩:=hg;go_wp2;go_ret;exact G.out
theorem zpD (x:Int)(w:World):Calls prog 193 #[.int .i64 x] w λe w'=>e=.returned (.bool false)/\w=w':=by
 go_enter func193,ntmps193;go_wp2;go_ret;exact⟨si9,rfl⟩
theorem zpE (x:Int)(w:World):Calls prog 194 #[.int .u64 x] w λe w'=>e=.returned (.bool false)/\w=w':=by
 go_enter func194,ntmps194;go_wp2;go_ret;exact⟨si9,rfl⟩
theorem zmo (x y:Nat)(w:World):Calls prog 156 #[.int .i64 x,.int .i64 y] w λe w'=>e=.returned (.int .i64 (zcG x y))/\w=w':=by
 have C:x<y/\Hid (zcG x y= -1)\/y<x/\Hid (zcG x y=1)\/¬ x<y/\¬ y<x/\Hid (zcG x y=0):=by
  rcases Nat.lt_trichotomy x y with h|h|h
  ·exact .inl ⟨h,zev h⟩
  ·exact .inr (.inr ⟨om9,om9,zgm h⟩)
  ·exact .inr (.inl ⟨h,zfj h⟩)
 rcases C with⟨h,H⟩|⟨h,H⟩|⟨h,h',H⟩
 all_goals
  go_enter func156,ntmps156
  go_wp2_with fail
  refine(zpD _ _).mono ?_
  rintro e w' ⟨rfl,rfl⟩
  go_wp2_with fail
  refine(zpD _ _).mono ?_
  rintro e w' ⟨rfl,rfl⟩
  go_wp2
  go_ret
  exact⟨by rw [H.out];rfl,rfl⟩
theorem zmq (x y:Nat)(w:World):Calls prog 157 #[.int .u64 x,.int .u64 y] w λe w'=>e=.returned (.int .i64 (zcG x y))/\w=w':=by
 have C:x<y/\Hid (zcG x y= -1)\/y<x/\Hid (zcG x y=1)\/¬ x<y/\¬ y<x/\Hid (zcG x y=0):=by
  rcases Nat.lt_trichotomy x y with h|h|h
  ·exact .inl ⟨h,zev h⟩
  ·exact .inr (.inr ⟨om9,om9,zgm h⟩)
  ·exact .inr (.inl ⟨h,zfj h⟩)
 rcases C with⟨h,H⟩|⟨h,H⟩|⟨h,h',H⟩
 all_goals
  go_enter func157,ntmps157
  go_wp2_with fail
  refine(zpE _ _).mono ?_
  rintro e w' ⟨rfl,rfl⟩
  go_wp2_with fail
  refine(zpE _ _).mono ?_
  rintro e w' ⟨rfl,rfl⟩
  go_wp2
  go_ret
  exact⟨by rw [H.out];rfl,rfl⟩
def zcL (w:World)(z:Int)(e:Ending)(w':World):Prop:=e=.returned (.int .i64 z)/\Below w.heap.size w w'
theorem zoF (x y:Nat)(A D:oA9)(m c d:Nat)(w:World)(hA:zad w x A m c)(hD:zad w y D m d)(hm:m<=1099511627776):
  Calls prog 101 #[.agg #[.slice A m c],.agg #[.slice D m d]] w (zcL w (zcG x y)):=by
 have l:=hA.len;have f:=hD.len;have H0:Hid (x / 18446744073709551616^m=y / 18446744073709551616^m):=by
  show _=_;rw [Nat.div_eq_of_lt (by rw [<-l];exact zbP de9 x),Nat.div_eq_of_lt (by rw [<-f];exact zbP de9 y)]
 have s:=hA.1;have t:=hD.1;clear l f hA hD;go_enter func101,ntmps101;go_wp2_with fail;have o:Below w.heap.size w ((w.alloc (.cells #[.slice A m c] 37)).alloc (.cells #[.slice D m d] 37)).drew:=(((Below.refl _ w).alloc (Nat.le_refl _) _).alloc si9 _).drew
 go_region_held3 (fun w' => Below w.heap.size w w' ∧ w'.cell? ⟨w.heap.size,0,none⟩ = some (.slice A m c) ∧ w'.cell? ⟨w.heap.size + 1,0,none⟩ = some (.slice D m d))
  (first|go_keep|(go_split_ands;exact⟨zaa (by assumption) hb,zac hb (by first|assumption|simp),zac hb (by first|assumption|simp)⟩))
  (first
    |(go_at_call 147;refine(zbS x _ _ _ _).mono ?_;rintro e w' ⟨rfl,hb⟩))
 rename_i hH
 obtain⟨hB,h1,h2⟩:=hH;clear hb;go_wp2_with fail;refine(zbS x _ _ _ _).mono ?_;rintro e w2 ⟨rfl,a⟩;have n:=zaa hB a;have g1:=zac a h1;have g2:=zac a h2;clear hB a h1 h2 o;go_wp2_with fail
 go_loopg [5,6] (m+1) (λg i _ wr=>∃(k:Nat),k<=m/\i=.int .i64 ((k:Int) - 1)/\Hid (x / 18446744073709551616^k=y / 18446744073709551616^k)/\k<g/\Below w.heap.size w wr/\wr.cell? ⟨w.heap.size,0,none⟩=some (.slice A m c)/\wr.cell? ⟨w.heap.size+1,0,none⟩=some (.slice D m d))
 case atStart=>exact⟨m,Nat.le_refl _,rfl,H0,Nat.lt_succ_self _,n,g1,g2⟩
 case round=>
  obtain⟨k,hk,rfl,H,hg,hB,g1,g2⟩:=hrel;have rA:=s.below hB;have rD:=t.below hB;by_cases hk0:k=0
  ·subst hk0;have C:=lh9 (zgm (x:=x) (y:=y) (by have:=H.out;simpa using this));go_wp2;go_ret;exact⟨by rw [C.out];rfl,hB⟩
  ·obtain⟨j,rfl⟩:∃j,k=j+1:=⟨k - 1,om9⟩;obtain⟨ad,rfl,hadb,h1⟩:=zdy rA (k:=j) om9;obtain⟨ae,rfl,haeb,h2⟩:=zdy rD (k:=j) om9;rw [zeK] at h1 h2;have L1:=lh9 (λh=>znY (b:=18446744073709551616) H.out h);have L2:=lh9 (λh=>znY (b:=18446744073709551616) H.out.symm h);have L3:=lh9 (λh=>cmp_eq (b:=18446744073709551616) H.out h);obtain⟨p,hp⟩:∃p,wd x j=p:=⟨_,rfl⟩;obtain⟨r,hr⟩:∃p,wd y j=p:=⟨_,rfl⟩;unfold wd at hp hr;rw [hp,hr] at L1 L2 L3;rw [show wd x j=p from hp] at h1;rw [show wd y j=r from hr] at h2;clear hp hr;have CC:=lh9 (λw=>zmq p r w);have K:(zcG p r= -1/\Hid (zcG x y= -1))\/(zcG p r=0/\Hid (x / 18446744073709551616^j=y / 18446744073709551616^j))\/(zcG p r=1/\Hid (zcG x y=1)):=by
    rcases Nat.lt_trichotomy p r with h|h|h
    ·exact .inl ⟨zev h,zev (L1.out h)⟩
    ·exact .inr (.inl ⟨zgm h,L3.out h⟩)
    ·exact .inr (.inr ⟨zfj h,zfj (L2.out h)⟩)
   clear L1 L2 L3;rcases K with⟨e,C⟩|⟨e,M⟩|⟨e,C⟩
   ·rw [e] at CC;clear e;go_wp2_with fail;have s1:(0:Int)<=(j:Int):=om9;have s2:(j:Int)<(m:Int):=om9
    go_quiet ((go_at_call 157;exact zdt (CC.out _)))
    go_wp2;go_ret;exact⟨by rw [C.out];rfl,zfh hB _⟩
   ·rw [e] at CC;clear e;go_wp2_with fail;have s1:(0:Int)<=(j:Int):=om9;have s2:(j:Int)<(m:Int):=om9
    go_quiet ((go_at_call 157;exact zdt (CC.out _)))
    go_wp2;go_roundg (j+1)
    case measure=>omega
    case rel=>exact⟨j,om9,by go_num,M,om9,zfh hB _,g1,g2⟩
   ·rw [e] at CC;clear e;go_wp2_with fail;have s1:(0:Int)<=(j:Int):=om9;have s2:(j:Int)<(m:Int):=om9
    go_quiet ((go_at_call 157;exact zdt (CC.out _)))
    go_wp2;go_ret;exact⟨by rw [C.out];rfl,zfh hB _⟩
theorem zfo (x y:Nat)(A D:oA9)(n m c d:Nat)(w:World)(hA:zad w x A n c)(hD:zad w y D m d)(hn:n<=1099511627776)(hm:m<=1099511627776):
  Calls prog 101 #[.agg #[.slice A n c],.agg #[.slice D m d]] w (zcL w (zcG x y)):=by
 have g:=hA.len;have f:=hD.len;by_cases hne:n=m
 ·subst hne;exact zoF x y A D n c d w hA hD hn
 ·have C:zcG n m=zcG x y:=by
   rcases Nat.lt_trichotomy n m with h|h|h
   ·rw [zev h,zev (zjt (b:=18446744073709551616) de9 om9)]
   ·exact absurd h hne
   ·rw [zfj h,zfj (zjt (b:=18446744073709551616) de9 om9)]
  have hne':((n:Int)==(m:Int))=false:=by simp;omega
  have CC:∀w,Calls prog 156 #[.int .i64 n,.int .i64 m] w λe w'=>e=.returned (.int .i64 (zcG x y))/\w=w':=λw=>by rw [<-C];exact zmo n m w
  have HC:=lh9 CC;obtain⟨z,hz⟩:∃z,zcG x y=z:=⟨_,rfl⟩;rw [hz] at HC⊢;clear g f hne C CC hz;go_enter func101,ntmps101;go_wp2_with fail;have a:Below w.heap.size w ((w.alloc (.cells #[.slice A n c] 37)).alloc (.cells #[.slice D m d] 37)).drew:=(((Below.refl _ w).alloc (Nat.le_refl _) _).alloc si9 _).drew
  go_region_held3 (fun w' => Below w.heap.size w w' ∧ w'.cell? ⟨w.heap.size,0,none⟩ = some (.slice A n c) ∧ w'.cell? ⟨w.heap.size + 1,0,none⟩ = some (.slice D m d))
   (first|go_keep|(go_split_ands;exact⟨zaa (by assumption) hb,zac hb (by first|assumption|simp),zac hb (by first|assumption|simp)⟩))
   (first
     |(go_at_call 147;refine(zbS x _ _ _ _).mono ?_;rintro e w' ⟨rfl,hb⟩))
  rename_i hH
  obtain⟨hB,h1,h2⟩:=hH;clear hb a;go_wp2_with fail;have a:Below w.heap.size w w'.drew:=hB.drew
  go_region_held3 (fun w' => Below w.heap.size w w' ∧ w'.cell? ⟨w.heap.size,0,none⟩ = some (.slice A n c) ∧ w'.cell? ⟨w.heap.size + 1,0,none⟩ = some (.slice D m d))
   (first|go_keep|(go_split_ands;exact⟨zaa (by assumption) hb,zac hb (by first|assumption|simp),zac hb (by first|assumption|simp)⟩))
   (first
     |(go_at_call 147;refine(zbS x _ _ _ _).mono ?_;rintro e w' ⟨rfl,hb⟩)
     |(go_at_call 156;refine(HC.out _).mono ?_;rintro e w' ⟨rfl,rfl⟩))
  obtain⟨hB,h1,h2⟩:=‹Below w.heap.size w _/\_›;go_wp2;go_ret;exact⟨rfl,hB⟩
set_option maxRecDepth 100000 in
theorem zql (hi lo y:Int)(h0:0<hi)(h1:hi<y)(hy:y<18446744073709551616)(hl:Wd lo)(w:World):
  Calls prog 234 #[.int .u64 hi,.int .u64 lo,.int .u64 y] w λe w'=>e=.returned (.tuple #[.int .u64 (divQ hi lo y),.int .u64 (divR hi lo y)])/\w=w':=by
 obtain⟨J,K⟩:=hl;have H:=lh9 (lead64 y (by unfold Wd;omega) w);obtain⟨s,O,hs,a,l⟩:=zmN y om9 hy;rw [O] at H;clear O;obtain⟨b,c,j⟩:=dg_norm hi lo y s hs om9 h1 J K;have g:=dg_shift (hi*18446744073709551616+lo) y (2^s) (Int.pow_pos de9);obtain⟨Y,B⟩:∃Y,y*2^s=Y:=⟨_,rfl⟩;have o:lo / 2^(64 - s)<2^s:=by
  refine Int.ediv_lt_of_lt_mul (Int.pow_pos de9) ?_;rw [<-Int.pow_add,show s+(64 - s)=64 from by omega];simpa using K
 have m:0<=lo / 2^(64 - s):=Int.ediv_nonneg J (Int.le_of_lt (Int.pow_pos de9));have X:0<=hi*2^s:=Int.mul_nonneg om9 (Int.le_of_lt (Int.pow_pos de9));have L:=or_join hi (lo / 2^(64 - s)) s om9 om9 m o hs;have Q:IntKind.u64.wrap (hi*2^s)=hi*2^s:=by rw [IntKind.wrap_u64];omega
 obtain⟨U,z⟩:∃U,hi*2^s+lo / 2^(64 - s)=U:=⟨_,rfl⟩;obtain⟨V,A⟩:∃V,lo*2^s%18446744073709551616=V:=⟨_,rfl⟩;have hV:0<=V/\V<18446744073709551616:=om9;have E1:Hid (IntKind.u64.wrap (y*2^s)=Y):=by rw [B,IntKind.wrap_u64];show _%_=_;omega
 have E3:Hid (bits .or .u64 (IntKind.u64.wrap (hi*2^s)) (lo / 2^(64 - s))=U):=by rw [Q,L];exact z
 have E4:Hid (IntKind.u64.wrap (lo*2^s)=V):=by rw [IntKind.wrap_u64];exact A
 have E2:Hid (bits .and .u64 Y 4294967295=Y%4294967296):=and_low32 Y om9 om9;have E5:Hid (bits .and .u64 V 4294967295=V%4294967296):=and_low32 V om9 om9;rw [B] at a l c g;rw [z] at b c j;rw [A] at j;obtain⟨hV0,hV1⟩:=hV;have f:=dq_two U V Y b c;have D1:=Dig.start (u:=V / 4294967296) b c a l om9 om9;have b1:=D1.low;have b2:=D1.q_hi;have b3:=D1.sum;have C:0<=U / (Y / 4294967296):=Int.ediv_nonneg b om9;have M:0<=U / (Y / 4294967296)*(Y / 4294967296):=Int.mul_nonneg C om9;have hA:2147483648<=Y / 4294967296:=om9;have N:U - U / (Y / 4294967296)*(Y / 4294967296)<4294967296:=by
  have hm:=Int.mul_ediv_add_emod U (Y / 4294967296);have aa:=Int.emod_lt_of_pos U (show 0<Y / 4294967296 by omega);rw [Int.mul_comm] at hm;omega
 have G:=zgO (U:=U) (u:=V / 4294967296) (Y:=Y) b c om9 om9;have bT:=zls (U:=U) (u:=V / 4294967296) (Y:=Y) om9;have e6:=zpp (U:=U) (u:=V / 4294967296) (Y:=Y) om9 l;obtain⟨Q1,v⟩:∃q,dgQ U (V / 4294967296) Y=q:=⟨_,rfl⟩;obtain⟨T,hT⟩:∃q,dgR U (V / 4294967296) Y=q:=⟨_,rfl⟩;rw [hT] at bT e6 f;rw [v] at G e6 f;obtain⟨h,i⟩:=bT;obtain⟨hQ10,hQ11⟩:=G;have D2:=Dig.start (u:=V%4294967296) h i a l om9 om9;have c1:=D2.low;have c2:=D2.q_hi;have ab:0<=T / (Y / 4294967296):=Int.ediv_nonneg h om9;have hp1:0<=T / (Y / 4294967296)*(Y / 4294967296):=Int.mul_nonneg ab om9;have P:T - T / (Y / 4294967296)*(Y / 4294967296)<4294967296:=by
  have hm:=Int.mul_ediv_add_emod T (Y / 4294967296);have aa:=Int.emod_lt_of_pos T (show 0<Y / 4294967296 by omega);rw [Int.mul_comm] at hm;omega
 have F:=zgO (U:=T) (u:=V%4294967296) (Y:=Y) h i om9 om9;have I:=zls (U:=T) (u:=V%4294967296) (Y:=Y) om9;have e7:=zpp (U:=T) (u:=V%4294967296) (Y:=Y) om9 l;obtain⟨Q0,t⟩:∃q,dgQ T (V%4294967296) Y=q:=⟨_,rfl⟩;obtain⟨T0,n⟩:∃q,dgR T (V%4294967296) Y=q:=⟨_,rfl⟩;rw [n] at I e7 f;rw [t] at F e7 f;obtain⟨hT00,hT01⟩:=I;obtain⟨hQ00,hQ01⟩:=F;have E6:Hid (IntKind.u64.wrap (IntKind.u64.wrap (IntKind.u64.wrap (U*4294967296)+V / 4294967296) - IntKind.u64.wrap (Q1*Y))=T):=by
  rw [IntKind.wrap_u64,IntKind.wrap_u64,IntKind.wrap_u64,IntKind.wrap_u64];exact e6
 have E7:Hid (IntKind.u64.wrap (IntKind.u64.wrap (IntKind.u64.wrap (T*4294967296)+V%4294967296) - IntKind.u64.wrap (Q0*Y))=T0):=by
  rw [IntKind.wrap_u64,IntKind.wrap_u64,IntKind.wrap_u64,IntKind.wrap_u64];exact e7
 have FQ:Hid (Q1*4294967296+Q0=divQ hi lo y):=by
  unfold divQ;show _=_;rw [f.1,j];exact g.1
 have FR:Hid (T0 / 2^s=divR hi lo y):=by
  unfold divR;show _=_;rw [f.2,j];exact g.2
 have R:=lh9 D1;have S:=lh9 D2;have E:=lh9 v;have D:=lh9 t;clear g j f B z A L Q b3 D1 D2 o m X e6 e7 v t hT n;have z1:(y==0)=false:=beq_eq_false_iff_ne.2 om9;have z2:(hi==0)=false:=beq_eq_false_iff_ne.2 om9;have z3:decide (y<=hi)=false:=by simp;omega
 go_enter func234,ntmps234;go_upto_block 0 with(first|(go_at_call 235;refine H.out.mono ?_;rintro e w' ⟨rfl,rfl⟩)|simp only [E1.out,E2.out,E3.out,E4.out,E5.out]);clear E1 E2 E3 E4 E5 H
 go_cut [15,16] (λq _ wc=>q=.int .u64 Q1/\wc=w)
 case first=>
  go_wp2_with fail
  go_loopg [15,16] 4294967298 (λk q r wr=>∃q0 r0:Int,q=.int .u64 q0/\r=.int .u64 r0/\Dig U (V / 4294967296) Y q0 r0/\r0<4294967296/\q0<k/\wr=w)
  case atStart=>exact⟨_,_,rfl,rfl,R.out,N,om9,rfl⟩
  case round=>
   obtain⟨q,r,rfl,rfl,hd,hr,hk,rfl⟩:=hrel;obtain⟨g0,g1,g2,g3,g4⟩:=hd.room b c om9 om9 hr;by_cases ht:4294967296<=q\/4294967296*r+V / 4294967296<q*(Y%4294967296)
   ·have d:=hd.down b c a om9 om9 ht;have C:=(zgO (U:=U) (u:=V / 4294967296) (Y:=Y) b c om9 om9).1;have Z:=d.q_lo;have ac:=hd.q_hi;have M:1<=q:=om9;go_wp2
    all_goals first
     |(go_meet;exact⟨congrArg (Value.int .u64) ((d.past a om9 om9 om9).trans E.out),rfl⟩)
     | (go_roundg (gk - 1)
        case measure=>omega
        case rel=>exact⟨_,_,rfl,rfl,d,om9,om9,rfl⟩)
   ·go_wp2;go_meet;exact⟨congrArg (Value.int .u64) ((hd.done a om9).trans E.out),rfl⟩
 case rest=>
  obtain⟨rfl,rfl⟩:=hcut;go_upto_block 2 with(simp only [E6.out]);clear E6
  go_cut [18,16] (λq _ wd=>q=.int .u64 Q0/\wd=wc)
  case first=>
   go_wp2_with fail
   go_loopg [18,16] 4294967298 (λk q r wr=>∃q0 r0:Int,q=.int .u64 q0/\r=.int .u64 r0/\Dig T (V%4294967296) Y q0 r0/\r0<4294967296/\q0<k/\wr=wc)
   case atStart=>exact⟨_,_,rfl,rfl,S.out,P,om9,rfl⟩
   case round=>
    obtain⟨q,r,rfl,rfl,hd,hr,hk,rfl⟩:=hrel;obtain⟨g0,g1,g2,g3,g4⟩:=hd.room h i om9 om9 hr;by_cases ht:4294967296<=q\/4294967296*r+V%4294967296<q*(Y%4294967296)
    ·have d:=hd.down h i a om9 om9 ht;have C:=(zgO (U:=T) (u:=V%4294967296) (Y:=Y) h i om9 om9).1;have Z:=d.q_lo;have ac:=hd.q_hi;have M:1<=q:=om9;go_wp2
     all_goals first
      |(go_meet;exact⟨congrArg (Value.int .u64) ((d.past a om9 om9 om9).trans D.out),rfl⟩)
      | (go_roundg (gk - 1)
         case measure=>omega
         case rel=>exact⟨_,_,rfl,rfl,d,om9,om9,rfl⟩)
    ·go_wp2;go_meet;exact⟨congrArg (Value.int .u64) ((hd.done a om9).trans D.out),rfl⟩
  case rest=>
   obtain⟨rfl,rfl⟩:=hcut;go_wp2_with (simp only [E7.out]);simp only [FQ.out,FR.out]
   go_ret2
   exact⟨rfl,rfl⟩
theorem zmu (lo y:Int)(h1:0<y)(hy:y<18446744073709551616)(hl:Wd lo)(w:World):
  Calls prog 234 #[.int .u64 0,.int .u64 lo,.int .u64 y] w λe w'=>e=.returned (.tuple #[.int .u64 (divQ 0 lo y),.int .u64 (divR 0 lo y)])/\∃n,w'=w.drewN n:=by
 obtain⟨a,b⟩:=hl;have z1:(y==0)=false:=beq_eq_false_iff_ne.2 om9;have z3:decide (y<=0)=false:=by simp;omega
 have q0:0<=lo / y:=Int.ediv_nonneg a om9;have q1:lo / y<18446744073709551616:=Int.lt_of_le_of_lt (Int.ediv_le_self y a) b;have r0:0<=lo%y:=Int.emod_nonneg _ om9;have r1:lo%y<18446744073709551616:=Int.lt_trans (Int.emod_lt_of_pos _ h1) hy;have FQ:Hid (lo / y=divQ 0 lo y):=by unfold divQ;show _=_;simp
 have FR:Hid (lo%y=divR 0 lo y):=by unfold divR;show _=_;simp
 go_enter func234,ntmps234;go_wp2
 go_quiet (fail)
 go_wp2;simp only [FQ.out,FR.out]
 go_ret2
 exact⟨rfl,_,rfl⟩
theorem div64 (hi lo y:Int)(h0:Wd hi)(h1:hi<y)(hy:y<18446744073709551616)(hl:Wd lo)(w:World):
  Calls prog 234 #[.int .u64 hi,.int .u64 lo,.int .u64 y] w λe w'=>e=.returned (.tuple #[.int .u64 (divQ hi lo y),.int .u64 (divR hi lo y)])/\∃n,w'=w.drewN n:=by
 by_cases hz:hi=0
 ·subst hz;exact zmu lo y h1 hy hl w
 ·refine(zql hi lo y (by have:=h0.1;omega) h1 hy hl w).mono ?_;rintro e w' ⟨rfl,rfl⟩;exact⟨rfl,0,rfl⟩
theorem zma (hi lo y:Int)(h0:Wd hi)(h1:hi<y)(hy:y<18446744073709551616)(hl:Wd lo)(w:World):
  Calls prog 226 #[.int .u64 hi,.int .u64 lo,.int .u64 y] w λe w'=>e=.returned (.tuple #[.int .u64 (divQ hi lo y),.int .u64 (divR hi lo y),.bool true])/\∃n,w'=w.drewN n:=by
 have H:=lh9 (div64 hi lo y h0 h1 hy hl w);have z1:decide (y<=hi)=false:=by simp;omega
 go_enter func226,ntmps226;go_wp2_with (go_at_call 234;refine H.out.mono ?_;rintro e w' ⟨rfl,n,rfl⟩)
 go_ret3
 exact⟨rfl,n,rfl⟩
theorem znH (hi lo y:Int)(h1:y<=hi)(w:World):
  Calls prog 226 #[.int .u64 hi,.int .u64 lo,.int .u64 y] w λe w'=>e=.returned (.tuple #[.int .u64 0,.int .u64 0,.bool false])/\w=w':=by
 have z1:decide (y<=hi)=true:=by simp;omega
 go_enter func226,ntmps226;go_wp2
 go_ret3
 exact⟨rfl,rfl⟩
