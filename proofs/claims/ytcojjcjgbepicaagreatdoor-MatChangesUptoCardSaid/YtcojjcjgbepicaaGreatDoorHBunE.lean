/- What this claim leans on. -/
import Derived.Test.YtcojjcjgbepicaaGreatDoorHBunD
import Derived.BigQuiet
import Derived.Deep.CutBlock
import Derived.Deep.DeepCutAuto
import Derived.Deep.LoopGhost
import Derived.Deep.RegionHeld3
import Derived.KernelRfl
import Derived.Lib.SliceRun
import Derived.LoopTactic
namespace Go.Proofs.YtcojjcjgbepicaaGreatDoor
open Go Go.RowKit Go.Proofs.Tryz
set_option maxHeartbeats 16000000
theorem ziZ:(prog.info? 3).map (λi=>(i.zero,i.size,i.bytes))=some (some (.int .i64 0),1,8):=kr9
theorem zfA:(prog.info? 161).map (λi=>(i.zero,i.size,i.bytes))=some (some (.int .u64 0),1,8):=kr9
set_option maxRecDepth 100000
set_option linter.unusedVariables false
def TrimR (w:World)(B:Nat)(A:oA9)(x:Nat)(e:Ending)(w':World):Prop:=
 ∃(A':oA9) (c':Nat),e=.returned (.slice A' (dg 18446744073709551616 x).length c')/\zav w B 1 A' (dg 18446744073709551616 x).length (zaw .u64 (dg 18446744073709551616 x))/\(dg 18446744073709551616 x).length<=c'/\c'<=9223372036854775807/\(A'=A\/A'=none)/\w=w'
theorem zfE (A:oA9)(n c B:Nat)(l:List Nat)(w:World)(hA:zav w B 1 A n (zaw .u64 l))(hl:Dgs 18446744073709551616 l)(hc:n<=c)(f:c<=9223372036854775807)(hn:n<=1099511627776):
  Calls prog 188 #[.slice A n c] w (TrimR w B A (dv 18446744073709551616 l)):=by
 have HL:=lh9 hA.len_;go_enter func188,ntmps188;go_wp2
 go_loop [3] (λs=>∃m:Nat,m<=n/\s=.int .i64 m/\Hid (dv 18446744073709551616 (l.take m)=dv 18446744073709551616 l)) (λs=>(intOf s).toNat)
 case atStart=>exact⟨n,Nat.le_refl _,rfl,by show _=_;rw [List.take_of_length_le (by have:=HL.out;omega)]⟩
 case round=>
  obtain⟨m,hm,rfl,H⟩:=hrel;by_cases hm0:m=0
  ·subst hm0;have G:Hid (TrimR w B A (dv 18446744073709551616 l) (.returned (.slice none 0 0)) w):=by
    have e:dv 18446744073709551616 l=0:=by have:=H.out;simpa [dv] using this.symm
    rw [e];exact⟨none,0,rfl,zav.none_,Nat.le_refl _,om9,.inr rfl,rfl⟩
   go_wp2;go_ret;exact G.out
  ·obtain⟨j,rfl⟩:∃j,m=j+1:=⟨m - 1,om9⟩;have a:=hA.take_ hm;rw [zkQ] at a;obtain⟨ad,rfl,hadb,b⟩:=zbF hA (k:=j) om9;by_cases hz:l.getD j 0=0
   ·have HM:=lh9 ((zkg 18446744073709551616 (l:=l) (n:=j) (by have:=HL.out;omega) hz).symm.trans H.out);rw [hz] at b;clear hz a;go_wp2
    go_round
    case rel=>exact⟨j,om9,by go_num,HM⟩
    case measure=>simp only [intOf];omega
   ·have g:(((l.getD j 0:Nat):Int)==0)=false:=beq_eq_false_iff_ne.2 om9;have G:Hid (TrimR w B (some ad) (dv 18446744073709551616 l) (.returned (.slice (some ad) (j+1) c)) w):=by
     have e:=zpp de9 hl (by have:=HL.out;omega) H.out (.inr hz);have e2:(dg 18446744073709551616 (dv 18446744073709551616 l)).length=j+1:=by rw [<-e,List.length_take];have:=HL.out;omega
     refine⟨some ad,c,by rw [e2],?_,om9,f,.inl rfl,rfl⟩;rw [e2,<-e];exact a
    obtain⟨d,hd⟩:∃d,l.getD j 0=d:=⟨_,rfl⟩;rw [hd] at b g;clear hz hd a;go_wp2;go_ret;exact G.out
theorem zoj (w:World)(l:List Nat)(hl:l=[]):zfm w 0 (zaw .u64 l) (.returned (.slice none 0 0)) w:=by
 subst hl;exact⟨none,0,rfl,zav.none_,Nat.le_refl _,⟨om9,by intro ad e;cases e⟩,Below.refl _ _⟩
def zfs (w:World)(n:Nat)(xs:List Value)(e:Ending)(w':World):Prop:=∃v,e=.returned v/\w'.ownsRow w.heap.size 161 1 v n xs/\Below w.heap.size w w'
theorem zgm (ad:Addr)(n c:Nat)(l:List Nat)(w:World)(hA:zav w w.heap.size 1 (some ad) n (zaw .u64 l))(hn:n<=1099511627776):
  Calls prog 186 #[.slice (some ad) n c] w (zfs w n (zaw .u64 l)):=by
 obtain⟨i0,j,k,m,p⟩:=info_parts zfA;have q:∀(w:World) (a:oA9) (n c n' c':Nat),(binOp .eql 47 (.slice a n c) (.slice none n' c')).run prog w=.ok (.bool a.isNone) w:=λw a n c n' c'=>Lib.run_eql_slice_nil w _ _ a n c n' c' underlying47;have h:∀o,zav (w.alloc o) w.heap.size 1 (some ad) n (zaw .u64 l):=λo=>hA.alloc (Nat.le_refl _) o;go_enter func186,ntmps186;go_wp2_with (at_builtin;refine zdo _ rfl (.tmp 5) (.tmp 6) 47 rfl w.heap.size 161 i0 (.int .u64 0) 1 8 underlying47 j k m p rfl de9 (.slice (some ⟨w.heap.size,0,none⟩) 0 0) 0 [] rfl (World.ownsRow_made w #[] 0 (Nat.le_refl _) (Nat.zero_le _) rfl) _ (some ad) n c (zaw .u64 l) rfl (h _) (zek _ _) (by unfold maxLen;omega) om9 si9 ?_;intro v' w1 d b i);have f:Below w.heap.size w w1:=((Below.refl _ w).alloc (Nat.le_refl _) _).grown b si9 (λg hg=>by simp [Value.ownBlock] at hg;omega);have G:Hid (zfs w n (zaw .u64 l) (.returned v') w1):=⟨v',rfl,by simpa using d,f⟩;clear d b i f;go_wp2;go_ret;exact G.out
theorem zjR (c:Nat)(w:World):Calls prog 186 #[.slice none 0 c] w λe w'=>e=.returned (.slice none 0 0)/\w=w':=by
 have q:∀(w:World) (a:oA9) (n c n' c':Nat),(binOp .eql 47 (.slice a n c) (.slice none n' c')).run prog w=.ok (.bool a.isNone) w:=λw a n c n' c'=>Lib.run_eql_slice_nil w _ _ a n c n' c' underlying47;go_enter func186,ntmps186;go_wp2;go_ret;exact⟨rfl,rfl⟩
theorem zku (A:oA9)(n c:Nat)(l:List Nat)(w:World)(hA:zav w w.heap.size 1 A n (zaw .u64 l))(hn:n<=1099511627776):
  Calls prog 186 #[.slice A n c] w (zfm w n (zaw .u64 l)):=by
 rcases A with _|ad
 ·have q:∀(w:World) (a:oA9) (n c n' c':Nat),(binOp .eql 47 (.slice a n c) (.slice none n' c')).run prog w=.ok (.bool a.isNone) w:=λw a n c n' c'=>Lib.run_eql_slice_nil w _ _ a n c n' c' underlying47;have b:n=0:=by
   rcases Nat.eq_zero_or_pos n with h|h
   ·exact h
   ·obtain⟨ad,e,_⟩:=hA.2 h;cases e
  subst b;have G:=lh9 (zoj w l (List.eq_nil_of_length_eq_zero hA.len_));go_enter func186,ntmps186;go_wp2;go_ret;exact G.out
 ·exact(zgm ad n c l w hA hn).mono λe w' ⟨v,he,ho,hb⟩=>by rw [he];exact zfb ho hb
def zaf (w:World)(x:Nat)(A:oA9)(n c:Nat):Prop:=zav w w.heap.size 1 A n (zaw .u64 (dg 18446744073709551616 x))/\n<=c/\c<=9223372036854775807
theorem zaf.len {w:World}{x:Nat}{A:oA9}{n c:Nat}(h:zaf w x A n c):(dg 18446744073709551616 x).length=n:=h.1.len_
theorem zaf.below {w w':World}{x:Nat}{A:oA9}{n c:Nat}(h:zaf w x A n c)(hb:Below w.heap.size w w'):zaf w' x A n c:=
 ⟨(h.1.below hb).more hb.size,h.2⟩
theorem zaf.drewN {w:World}{x:Nat}{A:oA9}{n c:Nat}(h:zaf w x A n c)(k:Nat):zaf (w.drewN k) x A n c:=h
theorem zgR.words {w:World}{x:Nat}{v:Value}(h:zgR w x v):∃(A:oA9) (n c:Nat),v=.agg #[.slice A n c]/\zaf w x A n c:=h
theorem zae {w w':World}{p:Addr}{v:Value}(hb:Below w.heap.size w w')(h:w.cell? p=some v):w'.cell? p=some v:=(hb.cell (World.block_lt_of_cell? w p h)).trans h
theorem zae2 {w w':World}{p0:Addr}{v0:Value}{p1:Addr}{v1:Value}(hb:Below w.heap.size w w')(h0:w.cell? p0=some v0)(h1:w.cell? p1=some v1):w'.cell? p0=some v0/\w'.cell? p1=some v1:=⟨zae hb h0,zae hb h1⟩
theorem zae3 {w w':World}{p0:Addr}{v0:Value}{p1:Addr}{v1:Value}{p2:Addr}{v2:Value}(hb:Below w.heap.size w w')(h0:w.cell? p0=some v0)(h1:w.cell? p1=some v1)(h2:w.cell? p2=some v2):w'.cell? p0=some v0/\w'.cell? p1=some v1/\w'.cell? p2=some v2:=⟨zae hb h0,zae hb h1,zae hb h2⟩
theorem zae4 {w w':World}{p0:Addr}{v0:Value}{p1:Addr}{v1:Value}{p2:Addr}{v2:Value}{p3:Addr}{v3:Value}(hb:Below w.heap.size w w')(h0:w.cell? p0=some v0)(h1:w.cell? p1=some v1)(h2:w.cell? p2=some v2)(h3:w.cell? p3=some v3):w'.cell? p0=some v0/\w'.cell? p1=some v1/\w'.cell? p2=some v2/\w'.cell? p3=some v3:=⟨zae hb h0,zae hb h1,zae hb h2,zae hb h3⟩
theorem zae6 {w w':World}{p0:Addr}{v0:Value}{p1:Addr}{v1:Value}{p2:Addr}{v2:Value}{p3:Addr}{v3:Value}{p4:Addr}{v4:Value}{p5:Addr}{v5:Value}(hb:Below w.heap.size w w')(h0:w.cell? p0=some v0)(h1:w.cell? p1=some v1)(h2:w.cell? p2=some v2)(h3:w.cell? p3=some v3)(h4:w.cell? p4=some v4)(h5:w.cell? p5=some v5):w'.cell? p0=some v0/\w'.cell? p1=some v1/\w'.cell? p2=some v2/\w'.cell? p3=some v3/\w'.cell? p4=some v4/\w'.cell? p5=some v5:=⟨zae hb h0,zae hb h1,zae hb h2,zae hb h3,zae hb h4,zae hb h5⟩
theorem zae7 {w w':World}{p0:Addr}{v0:Value}{p1:Addr}{v1:Value}{p2:Addr}{v2:Value}{p3:Addr}{v3:Value}{p4:Addr}{v4:Value}{p5:Addr}{v5:Value}{p6:Addr}{v6:Value}(hb:Below w.heap.size w w')(h0:w.cell? p0=some v0)(h1:w.cell? p1=some v1)(h2:w.cell? p2=some v2)(h3:w.cell? p3=some v3)(h4:w.cell? p4=some v4)(h5:w.cell? p5=some v5)(h6:w.cell? p6=some v6):w'.cell? p0=some v0/\w'.cell? p1=some v1/\w'.cell? p2=some v2/\w'.cell? p3=some v3/\w'.cell? p4=some v4/\w'.cell? p5=some v5/\w'.cell? p6=some v6:=⟨zae hb h0,zae hb h1,zae hb h2,zae hb h3,zae hb h4,zae hb h5,zae hb h6⟩
theorem zac {w w1 w':World}(h:Below w.heap.size w w1)(hb:Below w1.heap.size w1 w'):Below w.heap.size w w':=h.trans (hb.mono h.size)
def wd (x k:Nat):Nat:=x / 18446744073709551616^k%18446744073709551616
theorem zcu (x k:Nat):wd x k<18446744073709551616:=Nat.mod_lt _ de9
theorem zey (x k:Nat):(dg 18446744073709551616 x).getD k 0=wd x k:=by rw [zeo de9 (zcx de9 x),zde de9];rfl
theorem wd_above (x k:Nat)(h:(dg 18446744073709551616 x).length<=k):wd x k=0:=by
 rw [<-zey,List.getD_eq_getElem?_getD,List.getElem?_eq_none h];rfl
theorem zbK (x:Nat)(A:oA9)(n c:Nat)(w:World):Calls prog 151 #[.agg #[.slice A n c]] w λe w'=>e=.returned (.int .i64 n)/\Below w.heap.size w w':=by
 go_enter func151,ntmps151;go_wp2;go_ret;exact⟨rfl,(Below.refl _ _).alloc (Nat.le_refl _) _⟩
theorem znb (A:oA9)(n c:Nat)(w:World):Calls prog 154 #[.agg #[.slice A n c]] w λe w'=>e=.returned (.bool (decide (n=0)))/\Below w.heap.size w w':=by
 have e:((n:Int)==0)=decide (n=0):=by rw [Bool.eq_iff_iff];simp
 have E:=lh9 e;clear e;go_enter func154,ntmps154;go_wp2;go_ret;exact⟨by rw [E.out];rfl,(Below.refl _ _).alloc (Nat.le_refl _) _⟩
theorem zly (A:oA9)(n c:Nat)(k:Int)(w:World)(hk:k<0\/(n:Int)<=k):Calls prog 172 #[.agg #[.slice A n c],.int .i64 k] w λe w'=>e=.returned (.int .u64 0)/\Below w.heap.size w w':=by
 by_cases h0:k<0
 ·clear hk;go_enter func172,ntmps172;go_wp2;go_ret;exact⟨rfl,(Below.refl _ _).alloc (Nat.le_refl _) _⟩
 ·have h1:(n:Int)<=k:=om9;clear hk;go_enter func172,ntmps172;go_wp2;go_ret;exact⟨rfl,(Below.refl _ _).alloc (Nat.le_refl _) _⟩
theorem zdH (x:Nat)(A:oA9)(n c k:Nat)(w:World)(h:zaf w x A n c):Calls prog 172 #[.agg #[.slice A n c],.int .i64 k] w λe w'=>e=.returned (.int .u64 (wd x k:Nat))/\Below w.heap.size w w':=by
 by_cases hk:k<n
 ·obtain⟨hr,h1,h2⟩:=h;obtain⟨ad,rfl,a,hc⟩:=zbF hr hk;rw [zey] at hc;obtain⟨d,hd⟩:∃d,wd x k=d:=⟨_,rfl⟩;rw [hd] at hc⊢;have hc':∀o,(w.alloc o).cell? (ad.add k)=some (.int .u64 d):=λo=>(World.cell?_alloc_lt w o _ (by rw [zan];exact a)).trans hc;clear hd hr;go_enter func172,ntmps172;go_wp2;go_ret;exact⟨rfl,(Below.refl _ _).alloc (Nat.le_refl _) _⟩
 ·rw [wd_above x k (by rw [h.len];omega)];exact zly A n c k w (.inr om9)
def zeC (w:World)(A:oA9):Prop:=∀ad,A=some ad->w.heap.size<=ad.block
theorem zeC.none_ (w:World):zeC w none:=λ_ e=>by cases e
theorem zeC.from_ {w w1:World}{A:oA9}(h:zeC w1 A)(hb:Below w.heap.size w w1):zeC w A:=λad e=>Nat.le_trans hb.size (h ad e)
def zaR (w:World)(x:Nat)(e:Ending)(w':World):Prop:=∃(A:oA9) (n c:Nat),e=.returned (.agg #[.slice A n c])/\zaf w' x A n c/\Below w.heap.size w w'/\zeC w A
theorem zaR.from_ {w w1 w':World}{x:Nat}{e:Ending}(h:zaR w1 x e w')(hb:Below w.heap.size w w1):zaR w x e w':=by
 obtain⟨A,n,c,he,hn,h3,h4⟩:=h;exact⟨A,n,c,he,hn,hb.trans (h3.mono hb.size),h4.from_ hb⟩
theorem zdh {w:World}{A:oA9}{n c x:Nat}(h:zaf w x A n c){p:Addr}(hp:∀ad,A=some ad->ad.block≠p.block)(u:Value):zaf (w.setCell p u) x A n c:=by
 obtain⟨hr,h1,h2⟩:=h;refine⟨⟨hr.1,λhn=>?_⟩,h1,h2⟩;obtain⟨ad,e,hb,hc⟩:=hr.2 hn;refine⟨ad,e,by simpa using hb,λj v hv=>?_⟩;refine(World.cell?_setCell_other w p _ u (λe2=>hp ad e ?_)).trans (hc j v hv);have:=congrArg Addr.block e2;rw [zan] at this
 first|exact this|exact this.symm
theorem zgX {w w2:World}{x n c:Nat}{A:oA9}(h:zaf w2 x A n c)(hb:Below w.heap.size w w2){p:Addr}(hp:w.heap.size<=p.block)(hA:∀ad,A=some ad->ad.block≠p.block)(hf:zeC w A)(u:Value):zaR w x (.returned (.agg #[.slice A n c])) (w2.setCell p u):=
 ⟨A,n,c,rfl,zdh h hA u,hb.setCell hp u,hf⟩
theorem zdb (A:oA9)(n c:Nat)(l:List Nat)(w:World)(hA:zav w w.heap.size 1 A n (zaw .u64 l))(hl:Dgs 18446744073709551616 l)(hc:n<=c)(k:c<=9223372036854775807)(hn:n<=1099511627776):
  Calls prog 153 #[.slice A n c] w (zaR w (dv 18446744073709551616 l)):=by
 have a:(dg 18446744073709551616 (dv 18446744073709551616 l)).length<=1099511627776:=by
  have h1:=zbB (b:=18446744073709551616) de9 _ _ (zcP hl);have:=hA.len_;omega
 obtain⟨x,hx⟩:∃x,dv 18446744073709551616 l=x:=⟨_,rfl⟩;have T:∀o,Hid (Calls prog 188 #[.slice A n c] (w.alloc o) (TrimR (w.alloc o) w.heap.size A x)):=λo=>by
  have:=zfE A n c w.heap.size l (w.alloc o) (hA.alloc (Nat.le_refl _) o) hl hc k hn;rw [hx] at this;exact this
 have HT:=lh9 T;rw [hx] at a⊢;clear T hA hx;go_enter func153,ntmps153;go_wp2_with fail;refine(HT.out _).out.mono ?_;rintro e w1 ⟨A1,c1,rfl,h,h1,h2,_,rfl⟩;obtain⟨L,hL⟩:∃L,dg 18446744073709551616 x=L:=⟨_,rfl⟩;rw [hL] at h h1 a;have HL:=lh9 hL;have i:=h.more (B':=(w.alloc (.cells #[.slice none 0 0] 49)).heap.size) si9;have C:=zku A1 L.length c1 L _ i a;have HC:=lh9 C;rw [hL];clear C h i h1 h2 hL;go_wp2_with fail;refine HC.out.mono ?_;rintro e w2 ⟨A2,c2,rfl,j,h3,⟨h4,g⟩,d⟩;have hf:w2.frozen? ⟨w.heap.size,0,none⟩=false:=by
  rw [d.frozen (p:=⟨w.heap.size,0,none⟩) si9];exact(Blk.new w _ _).frozen 0
 have f:w2.cell? ⟨w.heap.size,0,none⟩=some (.slice none 0 0):=by
  rw [d.cell (p:=⟨w.heap.size,0,none⟩) si9];exact(Blk.new w _ _).cell 0
 have G : Hid (zaR w x (.returned (.agg #[.slice A2 L.length c2])) (w2.setCell ⟨w.heap.size,0,none⟩ (.slice A2 L.length c2))) :=
  zgX ⟨by rw [HL.out];exact j,h3,h4⟩ (((Below.refl _ w).alloc (Nat.le_refl _) _).trans (d.mono si9)) (Nat.le_refl _) (λad e=>by have:=g ad e;simp at this;show ad.block≠w.heap.size;omega) (λad e=>by have:=g ad e;simp at this;omega) _
 clear j g d;go_wp2;refine bodyPost_ret (v:=.agg #[.slice A2 L.length c2]) (by simp [results,results153,go_sem,f]) rfl ?_;exact G.out
theorem zdf (x:Nat)(A:oA9)(n c:Nat)(w:World)(h:zaf w x A n c)(hn:n<=1099511627776):
  Calls prog 150 #[.agg #[.slice A n c]] w (zfu w x):=by
 obtain⟨hr,h1,h2⟩:=h;have a:=hr.len_;have C:∀o,Calls prog 186 #[.slice A n c] (w.alloc o) (zfm (w.alloc o) n (zaw .u64 (dg 18446744073709551616 x))):=λo=>
  zku A n c _ (w.alloc o) ((hr.alloc (Nat.le_refl _) o).more si9) hn
 unfold zfu;rw [a];obtain⟨L,hL⟩:∃L,zaw .u64 (dg 18446744073709551616 x)=L:=⟨_,rfl⟩;rw [hL] at C⊢;have HC:=lh9 C;clear C hr a hL;go_enter func150,ntmps150;go_wp2_with fail;refine(HC.out _).mono ?_;intro e w1 hg;have G:=lh9 (hg.from_ ((Below.refl _ w).alloc (Nat.le_refl _) _));obtain⟨A1,c1,rfl,_,_,_,_⟩:=hg;go_wp2;go_ret;exact G.out
theorem zpz (x:Int)(w:World):Calls prog 192 #[.int .i64 x] w λe w'=>e=.returned (.bool false)/\w=w':=by
 go_enter func192,ntmps192;go_wp2;go_ret;exact⟨si9,rfl⟩
theorem zpA (x:Int)(w:World):Calls prog 193 #[.int .u64 x] w λe w'=>e=.returned (.bool false)/\w=w':=by
 go_enter func193,ntmps193;go_wp2;go_ret;exact⟨si9,rfl⟩
theorem zmn (x y:Nat)(w:World):Calls prog 165 #[.int .i64 x,.int .i64 y] w λe w'=>e=.returned (.int .i64 (zby x y))/\w=w':=by
 have C:x<y/\Hid (zby x y= -1)\/y<x/\Hid (zby x y=1)\/¬ x<y/\¬ y<x/\Hid (zby x y=0):=by
  rcases Nat.lt_trichotomy x y with h|h|h
  ·exact .inl ⟨h,zcZ h⟩
  ·exact .inr (.inr ⟨om9,om9,zdV h⟩)
  ·exact .inr (.inl ⟨h,zcY h⟩)
 rcases C with⟨h,H⟩|⟨h,H⟩|⟨h,h',H⟩
 all_goals
  go_enter func165,ntmps165
  go_wp2_with fail
  refine(zpz _ _).mono ?_
  rintro e w' ⟨rfl,rfl⟩
  go_wp2_with fail
  refine(zpz _ _).mono ?_
  rintro e w' ⟨rfl,rfl⟩
  go_wp2
  go_ret
  exact⟨by rw [H.out];rfl,rfl⟩
theorem zmp (x y:Nat)(w:World):Calls prog 167 #[.int .u64 x,.int .u64 y] w λe w'=>e=.returned (.int .i64 (zby x y))/\w=w':=by
 have C:x<y/\Hid (zby x y= -1)\/y<x/\Hid (zby x y=1)\/¬ x<y/\¬ y<x/\Hid (zby x y=0):=by
  rcases Nat.lt_trichotomy x y with h|h|h
  ·exact .inl ⟨h,zcZ h⟩
  ·exact .inr (.inr ⟨om9,om9,zdV h⟩)
  ·exact .inr (.inl ⟨h,zcY h⟩)
 rcases C with⟨h,H⟩|⟨h,H⟩|⟨h,h',H⟩
 all_goals
  go_enter func167,ntmps167
  go_wp2_with fail
  refine(zpA _ _).mono ?_
  rintro e w' ⟨rfl,rfl⟩
  go_wp2_with fail
  refine(zpA _ _).mono ?_
  rintro e w' ⟨rfl,rfl⟩
  go_wp2
  go_ret
  exact⟨by rw [H.out];rfl,rfl⟩
def zcl (w:World)(z:Int)(e:Ending)(w':World):Prop:=e=.returned (.int .i64 z)/\Below w.heap.size w w'
theorem zox (x y:Nat)(A D:oA9)(m c d:Nat)(w:World)(hA:zaf w x A m c)(hD:zaf w y D m d)(hm:m<=1099511627776):
  Calls prog 118 #[.agg #[.slice A m c],.agg #[.slice D m d]] w (zcl w (zby x y)):=by
 have l:=hA.len;have f:=hD.len;have H0:Hid (x / 18446744073709551616^m=y / 18446744073709551616^m):=by
  show _=_;rw [Nat.div_eq_of_lt (by rw [<-l];exact zbh de9 x),Nat.div_eq_of_lt (by rw [<-f];exact zbh de9 y)]
 have s:=hA.1;have t:=hD.1;clear l f hA hD;go_enter func118,ntmps118;go_wp2_with fail;have o:Below w.heap.size w ((w.alloc (.cells #[.slice A m c] 49)).alloc (.cells #[.slice D m d] 49)).drew:=(((Below.refl _ w).alloc (Nat.le_refl _) _).alloc si9 _).drew
 go_region_held3 (fun w' => Below w.heap.size w w' ∧ w'.cell? ⟨w.heap.size,0,none⟩ = some (.slice A m c) ∧ w'.cell? ⟨w.heap.size + 1,0,none⟩ = some (.slice D m d))
  (first|go_keep|(go_split_ands;exact⟨zac (by assumption) hb,zae hb (by first|assumption|simp),zae hb (by first|assumption|simp)⟩))
  (first
    |(go_at_call 151;refine(zbK x _ _ _ _).mono ?_;rintro e w' ⟨rfl,hb⟩))
 rename_i hH
 obtain⟨hB,h1,h2⟩:=hH;clear hb;go_wp2_with fail;refine(zbK x _ _ _ _).mono ?_;rintro e w2 ⟨rfl,a⟩;have n:=zac hB a;have g1:=zae a h1;have g2:=zae a h2;clear hB a h1 h2 o;go_wp2_with fail
 go_loopg [5,6] (m+1) (λg i _ wr=>∃(k:Nat),k<=m/\i=.int .i64 ((k:Int) - 1)/\Hid (x / 18446744073709551616^k=y / 18446744073709551616^k)/\k<g/\Below w.heap.size w wr/\wr.cell? ⟨w.heap.size,0,none⟩=some (.slice A m c)/\wr.cell? ⟨w.heap.size+1,0,none⟩=some (.slice D m d))
 case atStart=>exact⟨m,Nat.le_refl _,rfl,H0,Nat.lt_succ_self _,n,g1,g2⟩
 case round=>
  obtain⟨k,hk,rfl,H,hg,hB,g1,g2⟩:=hrel;have rA:=s.below hB;have rD:=t.below hB;by_cases hk0:k=0
  ·subst hk0;have C:=lh9 (zdV (x:=x) (y:=y) (by have:=H.out;simpa using this));go_wp2;go_ret;exact⟨by rw [C.out];rfl,hB⟩
  ·obtain⟨j,rfl⟩:∃j,k=j+1:=⟨k - 1,om9⟩;obtain⟨ad,rfl,hadb,h1⟩:=zbF rA (k:=j) om9;obtain⟨ae,rfl,haeb,h2⟩:=zbF rD (k:=j) om9;rw [zey] at h1 h2;have L1:=lh9 (λh=>ziG (b:=18446744073709551616) H.out h);have L2:=lh9 (λh=>ziG (b:=18446744073709551616) H.out.symm h);have L3:=lh9 (λh=>cmp_eq (b:=18446744073709551616) H.out h);obtain⟨p,hp⟩:∃p,wd x j=p:=⟨_,rfl⟩;obtain⟨r,hr⟩:∃p,wd y j=p:=⟨_,rfl⟩;unfold wd at hp hr;rw [hp,hr] at L1 L2 L3;rw [show wd x j=p from hp] at h1;rw [show wd y j=r from hr] at h2;clear hp hr;have CC:=lh9 (λw=>zmp p r w);have K:(zby p r= -1/\Hid (zby x y= -1))\/(zby p r=0/\Hid (x / 18446744073709551616^j=y / 18446744073709551616^j))\/(zby p r=1/\Hid (zby x y=1)):=by
    rcases Nat.lt_trichotomy p r with h|h|h
    ·exact .inl ⟨zcZ h,zcZ (L1.out h)⟩
    ·exact .inr (.inl ⟨zdV h,L3.out h⟩)
    ·exact .inr (.inr ⟨zcY h,zcY (L2.out h)⟩)
   clear L1 L2 L3;rcases K with⟨e,C⟩|⟨e,M⟩|⟨e,C⟩
   ·rw [e] at CC;clear e;go_wp2_with fail;have s1:(0:Int)<=(j:Int):=om9;have s2:(j:Int)<(m:Int):=om9
    go_quiet ((go_at_call 167;exact zcJ (CC.out _)))
    go_wp2;go_ret;exact⟨by rw [C.out];rfl,zbl hB _⟩
   ·rw [e] at CC;clear e;go_wp2_with fail;have s1:(0:Int)<=(j:Int):=om9;have s2:(j:Int)<(m:Int):=om9
    go_quiet ((go_at_call 167;exact zcJ (CC.out _)))
    go_wp2;go_roundg (j+1)
    case measure=>omega
    case rel=>exact⟨j,om9,by go_num,M,om9,zbl hB _,g1,g2⟩
   ·rw [e] at CC;clear e;go_wp2_with fail;have s1:(0:Int)<=(j:Int):=om9;have s2:(j:Int)<(m:Int):=om9
    go_quiet ((go_at_call 167;exact zcJ (CC.out _)))
    go_wp2;go_ret;exact⟨by rw [C.out];rfl,zbl hB _⟩
theorem zfh (x y:Nat)(A D:oA9)(n m c d:Nat)(w:World)(hA:zaf w x A n c)(hD:zaf w y D m d)(hn:n<=1099511627776)(hm:m<=1099511627776):
  Calls prog 118 #[.agg #[.slice A n c],.agg #[.slice D m d]] w (zcl w (zby x y)):=by
 have g:=hA.len;have f:=hD.len;by_cases hne:n=m
 ·subst hne;exact zox x y A D n c d w hA hD hn
 ·have C:zby n m=zby x y:=by
   rcases Nat.lt_trichotomy n m with h|h|h
   ·rw [zcZ h,zcZ (zgD (b:=18446744073709551616) de9 om9)]
   ·exact absurd h hne
   ·rw [zcY h,zcY (zgD (b:=18446744073709551616) de9 om9)]
  have hne':((n:Int)==(m:Int))=false:=by simp;omega
  have CC:∀w,Calls prog 165 #[.int .i64 n,.int .i64 m] w λe w'=>e=.returned (.int .i64 (zby x y))/\w=w':=λw=>by rw [<-C];exact zmn n m w
  have HC:=lh9 CC;obtain⟨z,hz⟩:∃z,zby x y=z:=⟨_,rfl⟩;rw [hz] at HC⊢;clear g f hne C CC hz;go_enter func118,ntmps118;go_wp2_with fail;have a:Below w.heap.size w ((w.alloc (.cells #[.slice A n c] 49)).alloc (.cells #[.slice D m d] 49)).drew:=(((Below.refl _ w).alloc (Nat.le_refl _) _).alloc si9 _).drew
  go_region_held3 (fun w' => Below w.heap.size w w' ∧ w'.cell? ⟨w.heap.size,0,none⟩ = some (.slice A n c) ∧ w'.cell? ⟨w.heap.size + 1,0,none⟩ = some (.slice D m d))
   (first|go_keep|(go_split_ands;exact⟨zac (by assumption) hb,zae hb (by first|assumption|simp),zae hb (by first|assumption|simp)⟩))
   (first
     |(go_at_call 151;refine(zbK x _ _ _ _).mono ?_;rintro e w' ⟨rfl,hb⟩))
  rename_i hH
  obtain⟨hB,h1,h2⟩:=hH;clear hb a;go_wp2_with fail;have a:Below w.heap.size w w'.drew:=hB.drew
  go_region_held3 (fun w' => Below w.heap.size w w' ∧ w'.cell? ⟨w.heap.size,0,none⟩ = some (.slice A n c) ∧ w'.cell? ⟨w.heap.size + 1,0,none⟩ = some (.slice D m d))
   (first|go_keep|(go_split_ands;exact⟨zac (by assumption) hb,zae hb (by first|assumption|simp),zae hb (by first|assumption|simp)⟩))
   (first
     |(go_at_call 151;refine(zbK x _ _ _ _).mono ?_;rintro e w' ⟨rfl,hb⟩)
     |(go_at_call 165;refine(HC.out _).mono ?_;rintro e w' ⟨rfl,rfl⟩))
  obtain⟨hB,h1,h2⟩:=‹Below w.heap.size w _/\_›;go_wp2;go_ret;exact⟨rfl,hB⟩
set_option maxRecDepth 100000 in
theorem zqe (hi lo y:Int)(h0:0<hi)(h1:hi<y)(hy:y<18446744073709551616)(hl:Wd lo)(w:World):
  Calls prog 231 #[.int .u64 hi,.int .u64 lo,.int .u64 y] w λe w'=>e=.returned (.tuple #[.int .u64 (divQ hi lo y),.int .u64 (divR hi lo y)])/\w=w':=by
 obtain⟨G,I⟩:=hl;have H:=lh9 (lead64 y (by unfold Wd;omega) w);obtain⟨s,M,hs,a,l⟩:=zmO y om9 hy;rw [M] at H;clear M;obtain⟨b,c,j⟩:=dg_norm hi lo y s hs om9 h1 G I;have g:=dg_shift (hi*18446744073709551616+lo) y (2^s) (Int.pow_pos de9);obtain⟨Y,z⟩:∃Y,y*2^s=Y:=⟨_,rfl⟩;have o:lo / 2^(64 - s)<2^s:=by
  refine Int.ediv_lt_of_lt_mul (Int.pow_pos de9) ?_;rw [<-Int.pow_add,show s+(64 - s)=64 from by omega];simpa using I
 have m:0<=lo / 2^(64 - s):=Int.ediv_nonneg G (Int.le_of_lt (Int.pow_pos de9));have R:0<=hi*2^s:=Int.mul_nonneg om9 (Int.le_of_lt (Int.pow_pos de9));have J:=or_join hi (lo / 2^(64 - s)) s om9 om9 m o hs;have O:IntKind.u64.wrap (hi*2^s)=hi*2^s:=by rw [IntKind.wrap_u64];omega
 obtain⟨U,v⟩:∃U,hi*2^s+lo / 2^(64 - s)=U:=⟨_,rfl⟩;obtain⟨V,x⟩:∃V,lo*2^s%18446744073709551616=V:=⟨_,rfl⟩;have hV:0<=V/\V<18446744073709551616:=om9;have E1:Hid (IntKind.u64.wrap (y*2^s)=Y):=by rw [z,IntKind.wrap_u64];show _%_=_;omega
 have E3:Hid (bits .or .u64 (IntKind.u64.wrap (hi*2^s)) (lo / 2^(64 - s))=U):=by rw [O,J];exact v
 have E4:Hid (IntKind.u64.wrap (lo*2^s)=V):=by rw [IntKind.wrap_u64];exact x
 have E2:Hid (bits .and .u64 Y 4294967295=Y%4294967296):=and_low32 Y om9 om9;have E5:Hid (bits .and .u64 V 4294967295=V%4294967296):=and_low32 V om9 om9;rw [z] at a l c g;rw [v] at b c j;rw [x] at j;obtain⟨hV0,hV1⟩:=hV;have f:=dq_two U V Y b c;have D1:=Dig.start (u:=V / 4294967296) b c a l om9 om9;have b1:=D1.low;have b2:=D1.q_hi;have b3:=D1.sum;have A:0<=U / (Y / 4294967296):=Int.ediv_nonneg b om9;have K:0<=U / (Y / 4294967296)*(Y / 4294967296):=Int.mul_nonneg A om9;have hA:2147483648<=Y / 4294967296:=om9;have L:U - U / (Y / 4294967296)*(Y / 4294967296)<4294967296:=by
  have hm:=Int.mul_ediv_add_emod U (Y / 4294967296);have X:=Int.emod_lt_of_pos U (show 0<Y / 4294967296 by omega);rw [Int.mul_comm] at hm;omega
 have E:=zgy (U:=U) (u:=V / 4294967296) (Y:=Y) b c om9 om9;have bT:=zlh (U:=U) (u:=V / 4294967296) (Y:=Y) om9;have e6:=zpo (U:=U) (u:=V / 4294967296) (Y:=Y) om9 l;obtain⟨Q1,t⟩:∃q,dgQ U (V / 4294967296) Y=q:=⟨_,rfl⟩;obtain⟨T,hT⟩:∃q,dgR U (V / 4294967296) Y=q:=⟨_,rfl⟩;rw [hT] at bT e6 f;rw [t] at E e6 f;obtain⟨h,i⟩:=bT;obtain⟨hQ10,hQ11⟩:=E;have D2:=Dig.start (u:=V%4294967296) h i a l om9 om9;have c1:=D2.low;have c2:=D2.q_hi;have Z:0<=T / (Y / 4294967296):=Int.ediv_nonneg h om9;have hp1:0<=T / (Y / 4294967296)*(Y / 4294967296):=Int.mul_nonneg Z om9;have N:T - T / (Y / 4294967296)*(Y / 4294967296)<4294967296:=by
  have hm:=Int.mul_ediv_add_emod T (Y / 4294967296);have X:=Int.emod_lt_of_pos T (show 0<Y / 4294967296 by omega);rw [Int.mul_comm] at hm;omega
 have D:=zgy (U:=T) (u:=V%4294967296) (Y:=Y) h i om9 om9;have F:=zlh (U:=T) (u:=V%4294967296) (Y:=Y) om9;have e7:=zpo (U:=T) (u:=V%4294967296) (Y:=Y) om9 l;obtain⟨Q0,p⟩:∃q,dgQ T (V%4294967296) Y=q:=⟨_,rfl⟩;obtain⟨T0,n⟩:∃q,dgR T (V%4294967296) Y=q:=⟨_,rfl⟩;rw [n] at F e7 f;rw [p] at D e7 f;obtain⟨hT00,hT01⟩:=F;obtain⟨hQ00,hQ01⟩:=D;have E6:Hid (IntKind.u64.wrap (IntKind.u64.wrap (IntKind.u64.wrap (U*4294967296)+V / 4294967296) - IntKind.u64.wrap (Q1*Y))=T):=by
  rw [IntKind.wrap_u64,IntKind.wrap_u64,IntKind.wrap_u64,IntKind.wrap_u64];exact e6
 have E7:Hid (IntKind.u64.wrap (IntKind.u64.wrap (IntKind.u64.wrap (T*4294967296)+V%4294967296) - IntKind.u64.wrap (Q0*Y))=T0):=by
  rw [IntKind.wrap_u64,IntKind.wrap_u64,IntKind.wrap_u64,IntKind.wrap_u64];exact e7
 have FQ:Hid (Q1*4294967296+Q0=divQ hi lo y):=by
  unfold divQ;show _=_;rw [f.1,j];exact g.1
 have FR:Hid (T0 / 2^s=divR hi lo y):=by
  unfold divR;show _=_;rw [f.2,j];exact g.2
 have P:=lh9 D1;have Q:=lh9 D2;have C:=lh9 t;have B:=lh9 p;clear g j f z v x J O b3 D1 D2 o m R e6 e7 t p hT n;have z1:(y==0)=false:=beq_eq_false_iff_ne.2 om9;have z2:(hi==0)=false:=beq_eq_false_iff_ne.2 om9;have z3:decide (y<=hi)=false:=by simp;omega
 go_enter func231,ntmps231;go_upto_block 0 with(first|(go_at_call 232;refine H.out.mono ?_;rintro e w' ⟨rfl,rfl⟩)|simp only [E1.out,E2.out,E3.out,E4.out,E5.out]);clear E1 E2 E3 E4 E5 H
 go_cut [15,16] (λq _ wc=>q=.int .u64 Q1/\wc=w)
 case first=>
  go_wp2_with fail
  go_loopg [15,16] 4294967298 (λk q r wr=>∃q0 r0:Int,q=.int .u64 q0/\r=.int .u64 r0/\Dig U (V / 4294967296) Y q0 r0/\r0<4294967296/\q0<k/\wr=w)
  case atStart=>exact⟨_,_,rfl,rfl,P.out,L,om9,rfl⟩
  case round=>
   obtain⟨q,r,rfl,rfl,hd,hr,hk,rfl⟩:=hrel;obtain⟨g0,g1,g2,g3,g4⟩:=hd.room b c om9 om9 hr;by_cases ht:4294967296<=q\/4294967296*r+V / 4294967296<q*(Y%4294967296)
   ·have d:=hd.down b c a om9 om9 ht;have A:=(zgy (U:=U) (u:=V / 4294967296) (Y:=Y) b c om9 om9).1;have S:=d.q_lo;have aa:=hd.q_hi;have K:1<=q:=om9;go_wp2
    all_goals first
     |(go_meet;exact⟨congrArg (Value.int .u64) ((d.past a om9 om9 om9).trans C.out),rfl⟩)
     | (go_roundg (gk - 1)
        case measure=>omega
        case rel=>exact⟨_,_,rfl,rfl,d,om9,om9,rfl⟩)
   ·go_wp2;go_meet;exact⟨congrArg (Value.int .u64) ((hd.done a om9).trans C.out),rfl⟩
 case rest=>
  obtain⟨rfl,rfl⟩:=hcut;go_upto_block 2 with(simp only [E6.out]);clear E6
  go_cut [18,16] (λq _ wd=>q=.int .u64 Q0/\wd=wc)
  case first=>
   go_wp2_with fail
   go_loopg [18,16] 4294967298 (λk q r wr=>∃q0 r0:Int,q=.int .u64 q0/\r=.int .u64 r0/\Dig T (V%4294967296) Y q0 r0/\r0<4294967296/\q0<k/\wr=wc)
   case atStart=>exact⟨_,_,rfl,rfl,Q.out,N,om9,rfl⟩
   case round=>
    obtain⟨q,r,rfl,rfl,hd,hr,hk,rfl⟩:=hrel;obtain⟨g0,g1,g2,g3,g4⟩:=hd.room h i om9 om9 hr;by_cases ht:4294967296<=q\/4294967296*r+V%4294967296<q*(Y%4294967296)
    ·have d:=hd.down h i a om9 om9 ht;have A:=(zgy (U:=T) (u:=V%4294967296) (Y:=Y) h i om9 om9).1;have S:=d.q_lo;have aa:=hd.q_hi;have K:1<=q:=om9;go_wp2
     all_goals first
      |(go_meet;exact⟨congrArg (Value.int .u64) ((d.past a om9 om9 om9).trans B.out),rfl⟩)
      | (go_roundg (gk - 1)
         case measure=>omega
         case rel=>exact⟨_,_,rfl,rfl,d,om9,om9,rfl⟩)
    ·go_wp2;go_meet;exact⟨congrArg (Value.int .u64) ((hd.done a om9).trans B.out),rfl⟩
  case rest=>
   obtain⟨rfl,rfl⟩:=hcut;go_wp2_with (simp only [E7.out]);simp only [FQ.out,FR.out]
   go_ret2
   exact⟨rfl,rfl⟩
theorem zms (lo y:Int)(h1:0<y)(hy:y<18446744073709551616)(hl:Wd lo)(w:World):
  Calls prog 231 #[.int .u64 0,.int .u64 lo,.int .u64 y] w λe w'=>e=.returned (.tuple #[.int .u64 (divQ 0 lo y),.int .u64 (divR 0 lo y)])/\∃n,w'=w.drewN n:=by
 obtain⟨a,b⟩:=hl;have z1:(y==0)=false:=beq_eq_false_iff_ne.2 om9;have z3:decide (y<=0)=false:=by simp;omega
 have q0:0<=lo / y:=Int.ediv_nonneg a om9;have q1:lo / y<18446744073709551616:=Int.lt_of_le_of_lt (Int.ediv_le_self y a) b;have r0:0<=lo%y:=Int.emod_nonneg _ om9;have r1:lo%y<18446744073709551616:=Int.lt_trans (Int.emod_lt_of_pos _ h1) hy;have FQ:Hid (lo / y=divQ 0 lo y):=by unfold divQ;show _=_;simp
 have FR:Hid (lo%y=divR 0 lo y):=by unfold divR;show _=_;simp
 go_enter func231,ntmps231;go_wp2
 go_quiet (fail)
 go_wp2;simp only [FQ.out,FR.out]
 go_ret2
 exact⟨rfl,_,rfl⟩
theorem div64 (hi lo y:Int)(h0:Wd hi)(h1:hi<y)(hy:y<18446744073709551616)(hl:Wd lo)(w:World):
  Calls prog 231 #[.int .u64 hi,.int .u64 lo,.int .u64 y] w λe w'=>e=.returned (.tuple #[.int .u64 (divQ hi lo y),.int .u64 (divR hi lo y)])/\∃n,w'=w.drewN n:=by
 by_cases hz:hi=0
 ·subst hz;exact zms lo y h1 hy hl w
 ·refine(zqe hi lo y (by have:=h0.1;omega) h1 hy hl w).mono ?_;rintro e w' ⟨rfl,rfl⟩;exact⟨rfl,0,rfl⟩
theorem zma (hi lo y:Int)(h0:Wd hi)(h1:hi<y)(hy:y<18446744073709551616)(hl:Wd lo)(w:World):
  Calls prog 225 #[.int .u64 hi,.int .u64 lo,.int .u64 y] w λe w'=>e=.returned (.tuple #[.int .u64 (divQ hi lo y),.int .u64 (divR hi lo y),.bool true])/\∃n,w'=w.drewN n:=by
 have H:=lh9 (div64 hi lo y h0 h1 hy hl w);have z1:decide (y<=hi)=false:=by simp;omega
 go_enter func225,ntmps225;go_wp2_with (go_at_call 231;refine H.out.mono ?_;rintro e w' ⟨rfl,n,rfl⟩)
 go_ret3
 exact⟨rfl,n,rfl⟩
theorem znI (hi lo y:Int)(h1:y<=hi)(w:World):
  Calls prog 225 #[.int .u64 hi,.int .u64 lo,.int .u64 y] w λe w'=>e=.returned (.tuple #[.int .u64 0,.int .u64 0,.bool false])/\w=w':=by
 have z1:decide (y<=hi)=true:=by simp;omega
 go_enter func225,ntmps225;go_wp2
 go_ret3
 exact⟨rfl,rfl⟩
