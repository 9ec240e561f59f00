/- What this claim leans on. -/
import Derived.Test.YtdfdjfiognhbgaaGreatDoorDBunD
import Derived.BigQuiet
import Derived.Deep.CutBlock
import Derived.Deep.DeepCutAuto
import Derived.Deep.LoopGhost
import Derived.Deep.RegionHeld3
import Derived.KernelRfl
import Derived.Lib.SliceRun
import Derived.LoopTactic
set_option linter.unusedVariables false
set_option linter.unusedSimpArgs false
namespace Go.Proofs.YtdfdjfiognhbgaaGreatDoor
open Go Go.RowKit Go.Proofs.Tryz
set_option maxHeartbeats 16000000
variable {p0 p1 p2 p3:Addr}{c n x:Nat}{v v0 v1 v2 v3:Value}{w w' w1:World}{A:ze}
theorem ls:(prog.info? 3).map (λi=>(i.zero,i.size,i.bytes))=some (some (.int .i64 0),1,8):=zP
theorem ol:(prog.info? 132).map (λi=>(i.zero,i.size,i.bytes))=some (some (.int .u64 0),1,8):=zP
set_option maxRecDepth 100000
def te (w:World)(B:Nat)(A:ze)(x:Nat)(e:Ending)(w':World):Prop:=
 ∃(A':ze) (c':Nat),e=.returned (.slice A' (dg 18446744073709551616 x).length c')/\zH w B 1 A' (dg 18446744073709551616 x).length (zq .u64 (dg 18446744073709551616 x))/\(dg 18446744073709551616 x).length<=c'/\c'<=9223372036854775807/\(A'=A\/A'=none)/\w=w'
theorem fB (A:ze)(n c B:Nat)(l:List Nat)(w:World)(hA:zH w B 1 A n (zq .u64 l))(hl:zD 18446744073709551616 l)(hc:n<=c)(i:c<=9223372036854775807)(hn:n<=1099511627776):
  Calls prog 149 #[.slice A n c] w (te w B A (dv 18446744073709551616 l)):=by
 have HL:=za hA.len_;go_enter func149,ntmps149;go_wp2
 go_loop [3] (λs=>∃m:Nat,m<=n/\s=.int .i64 m/\zd (dv 18446744073709551616 (l.take m)=dv 18446744073709551616 l)) (λs=>(intOf s).toNat)
 case atStart=>exact⟨n,qY _,rfl,by show _=_;rw [qU (by have:=HL.o;omega)]⟩
 case round=>
  obtain⟨m,hm,rfl,H⟩:=hrel;by_cases hm0:m=0
  ·subst hm0;have G:zd (te w B A (dv 18446744073709551616 l) (.returned (.slice none 0 0)) w):=by
    have e:dv 18446744073709551616 l=0:=by have:=H.o;simpa [dv] using this.symm
    rw [e];exact⟨none,0,rfl,zH.none_,qY _,zb,.inr rfl,rfl⟩
   go_wp2;go_ret;exact G.o
  ·obtain⟨j,rfl⟩:∃j,m=j+1:=⟨m - 1,zb⟩;have a:=hA.take_ hm;rw [WN] at a;obtain⟨ad,rfl,hadb,g⟩:=wB hA (k:=j) zb;by_cases hz:l.getD j 0=0
   ·have HM:=za ((Va 18446744073709551616 (l:=l) (n:=j) (by have:=HL.o;omega) hz).symm.trans H.o);rw [hz] at g;clear hz a;go_wp2
    go_round
    case rel=>exact⟨j,zb,by go_num,HM⟩
    case measure=>simp only [intOf];omega
   ·have o:(((l.getD j 0:Nat):Int)==0)=false:=beq_eq_false_iff_ne.2 zb;have G:zd (te w B (some ad) (dv 18446744073709551616 l) (.returned (.slice (some ad) (j+1) c)) w):=by
     have e:=UD zg hl (by have:=HL.o;omega) H.o (.inr hz);have e2:(dg 18446744073709551616 (dv 18446744073709551616 l)).length=j+1:=by rw [<-e,qB];have:=HL.o;omega
     refine⟨some ad,c,by rw [e2],?_,zb,i,.inl rfl,rfl⟩;rw [e2,<-e];exact a
    obtain⟨d,hd⟩:∃d,l.getD j 0=d:=⟨_,rfl⟩;rw [hd] at g o;clear hz hd a;go_wp2;go_ret;exact G.o
theorem S8 (w:World)(l:List Nat)(hl:l=[]):sm w 0 (zq .u64 l) (.returned (.slice none 0 0)) w:=by
 subst hl;exact⟨none,0,rfl,zH.none_,qY _,⟨zb,by intro ad e;cases e⟩,qZ _ _⟩
def fs (w:World)(n:Nat)(xs:List Value)(e:Ending)(w':World):Prop:=∃v,e=.returned v/\w'.ownsRow w.heap.size 132 1 v n xs/\Below w.heap.size w w'
theorem Yk (ad:Addr)(n c:Nat)(l:List Nat)(w:World)(hA:zH w w.heap.size 1 (some ad) n (zq .u64 l))(hn:n<=1099511627776):
  Calls prog 147 #[.slice (some ad) n c] w (fs w n (zq .u64 l)):=by
 obtain⟨i0,s,t,u,v⟩:=info_parts ol;have q:∀(w:World) (a:ze) (n c n' c':Nat),(binOp .eql 35 (.slice a n c) (.slice none n' c')).run prog w=.ok (.bool a.isNone) w:=λw a n c n' c'=>Lib.run_eql_slice_nil w _ _ a n c n' c' underlying35;have k:∀o,zH (w.alloc o) w.heap.size 1 (some ad) n (zq .u64 l):=λo=>hA.alloc (qY _) o;go_enter func147,ntmps147;go_wp2_with (at_builtin;refine cJ _ rfl (.tmp 5) (.tmp 6) 35 rfl w.heap.size 132 i0 (.int .u64 0) 1 8 underlying35 s t u v rfl zg (.slice (some ⟨w.heap.size,0,none⟩) 0 0) 0 [] rfl (World.ownsRow_made w #[] 0 (qY _) (qN _) rfl) _ (some ad) n c (zq .u64 l) rfl (k _) (jF _ _) (by unfold maxLen;omega) zb zE ?_;intro v' w1 i d m);have j:Below w.heap.size w w1:=((qZ _ w).alloc (qY _) _).grown d zE (λg hg=>by simp [Value.ownBlock] at hg;omega);have G:zd (fs w n (zq .u64 l) (.returned v') w1):=⟨v',rfl,by simpa using i,j⟩;clear i d m j;go_wp2;go_ret;exact G.o
theorem TH (c:Nat)(w:World):Calls prog 147 #[.slice none 0 c] w λe w'=>e=.returned (.slice none 0 0)/\w=w':=by
 have q:∀(w:World) (a:ze) (n c n' c':Nat),(binOp .eql 35 (.slice a n c) (.slice none n' c')).run prog w=.ok (.bool a.isNone) w:=λw a n c n' c'=>Lib.run_eql_slice_nil w _ _ a n c n' c' underlying35;go_enter func147,ntmps147;go_wp2;go_ret;exact⟨rfl,rfl⟩
theorem Vp (A:ze)(n c:Nat)(l:List Nat)(w:World)(hA:zH w w.heap.size 1 A n (zq .u64 l))(hn:n<=1099511627776):
  Calls prog 147 #[.slice A n c] w (sm w n (zq .u64 l)):=by
 rcases A with _|ad
 ·have q:∀(w:World) (a:ze) (n c n' c':Nat),(binOp .eql 35 (.slice a n c) (.slice none n' c')).run prog w=.ok (.bool a.isNone) w:=λw a n c n' c'=>Lib.run_eql_slice_nil w _ _ a n c n' c' underlying35;have d:n=0:=by
   rcases QT n with h|h
   ·exact h
   ·obtain⟨ad,e,_⟩:=hA.2 h;cases e
  subst d;have G:=za (S8 w l (QY hA.len_));go_enter func147,ntmps147;go_wp2;go_ret;exact G.o
 ·exact(Yk ad n c l w hA hn).mono λe w' ⟨v,he,ho,hb⟩=>by rw [he];exact cL ho hb
def zn (w:World)(x:Nat)(A:ze)(n c:Nat):Prop:=zH w w.heap.size 1 A n (zq .u64 (dg 18446744073709551616 x))/\n<=c/\c<=9223372036854775807
theorem zn.len (h:zn w x A n c):(dg 18446744073709551616 x).length=n:=h.1.len_
theorem zn.below (h:zn w x A n c)(hb:Below w.heap.size w w'):zn w' x A n c:=
 ⟨(h.1.below hb).more hb.size,h.2⟩
theorem zn.drewN (h:zn w x A n c)(k:Nat):zn (w.drewN k) x A n c:=h
theorem zn.nat (h:zn w x A n c):oJ w x (.agg #[.slice A n c]):=⟨A,n,c,rfl,h⟩
theorem oJ.words (h:oJ w x v):∃(A:ze) (n c:Nat),v=.agg #[.slice A n c]/\zn w x A n c:=h
theorem zt {p:Addr}(hb:Below w.heap.size w w')(h:w.cell? p=some v):w'.cell? p=some v:=(hb.cell (xQ w p h)).trans h
theorem xc (hb:Below w.heap.size w w')(h0:w.cell? p0=some v0)(h1:w.cell? p1=some v1):w'.cell? p0=some v0/\w'.cell? p1=some v1:=⟨zt hb h0,zt hb h1⟩
theorem yd (hb:Below w.heap.size w w')(h0:w.cell? p0=some v0)(h1:w.cell? p1=some v1)(h2:w.cell? p2=some v2):w'.cell? p0=some v0/\w'.cell? p1=some v1/\w'.cell? p2=some v2:=⟨zt hb h0,zt hb h1,zt hb h2⟩
theorem xy (hb:Below w.heap.size w w')(h0:w.cell? p0=some v0)(h1:w.cell? p1=some v1)(h2:w.cell? p2=some v2)(h3:w.cell? p3=some v3):w'.cell? p0=some v0/\w'.cell? p1=some v1/\w'.cell? p2=some v2/\w'.cell? p3=some v3:=⟨zt hb h0,zt hb h1,zt hb h2,zt hb h3⟩
theorem zO {p4:Addr}{v4:Value}{p5:Addr}{v5:Value}(hb:Below w.heap.size w w')(h0:w.cell? p0=some v0)(h1:w.cell? p1=some v1)(h2:w.cell? p2=some v2)(h3:w.cell? p3=some v3)(h4:w.cell? p4=some v4)(h5:w.cell? p5=some v5):w'.cell? p0=some v0/\w'.cell? p1=some v1/\w'.cell? p2=some v2/\w'.cell? p3=some v3/\w'.cell? p4=some v4/\w'.cell? p5=some v5:=⟨zt hb h0,zt hb h1,zt hb h2,zt hb h3,zt hb h4,zt hb h5⟩
theorem zc (h:Below w.heap.size w w1)(hb:Below w1.heap.size w1 w'):Below w.heap.size w w':=h.trans (hb.mono h.size)
def wd (x k:Nat):Nat:=x / 18446744073709551616^k%18446744073709551616
theorem wF (x k:Nat):wd x k<18446744073709551616:=QH _ zg
theorem oH (x k:Nat):(dg 18446744073709551616 x).getD k 0=wd x k:=by rw [kh zg (vV zg x),vf zg];rfl
theorem pO (x k:Nat)(h:(dg 18446744073709551616 x).length<=k):wd x k=0:=by
 rw [<-oH,qQ,QG h];rfl
theorem vN (x:Nat)(A:ze)(n c:Nat)(w:World):Calls prog 102 #[.agg #[.slice A n c]] w λe w'=>e=.returned (.int .i64 n)/\Below w.heap.size w w':=by
 go_enter func102,ntmps102;go_wp2;go_ret;exact⟨rfl,(qZ _ _).alloc (qY _) _⟩
theorem Um (A:ze)(n c:Nat)(w:World):Calls prog 106 #[.agg #[.slice A n c]] w λe w'=>e=.returned (.bool (decide (n=0)))/\Below w.heap.size w w':=by
 have e:((n:Int)==0)=decide (n=0):=by rw [Bool.eq_iff_iff];simp
 have E:=za e;clear e;go_enter func106,ntmps106;go_wp2;go_ret;exact⟨by rw [E.o];rfl,(qZ _ _).alloc (qY _) _⟩
theorem Sf (A:ze)(n c:Nat)(k:Int)(w:World)(hk:k<0\/(n:Int)<=k):Calls prog 164 #[.agg #[.slice A n c],.int .i64 k] w λe w'=>e=.returned (.int .u64 0)/\Below w.heap.size w w':=by
 by_cases h0:k<0
 ·clear hk;go_enter func164,ntmps164;go_wp2;go_ret;exact⟨rfl,(qZ _ _).alloc (qY _) _⟩
 ·have h1:(n:Int)<=k:=zb;clear hk;go_enter func164,ntmps164;go_wp2;go_ret;exact⟨rfl,(qZ _ _).alloc (qY _) _⟩
theorem ki (x:Nat)(A:ze)(n c k:Nat)(w:World)(h:zn w x A n c):Calls prog 164 #[.agg #[.slice A n c],.int .i64 k] w λe w'=>e=.returned (.int .u64 (wd x k:Nat))/\Below w.heap.size w w':=by
 by_cases hk:k<n
 ·obtain⟨hr,h1,h2⟩:=h;obtain⟨ad,rfl,a,hc⟩:=wB hr hk;rw [oH] at hc;obtain⟨d,hd⟩:∃d,wd x k=d:=⟨_,rfl⟩;rw [hd] at hc⊢;have hc':∀o,(w.alloc o).cell? (ad.add k)=some (.int .u64 d):=λo=>(World.cell?_alloc_lt w o _ (by rw [y8];exact a)).trans hc;clear hd hr;go_enter func164,ntmps164;go_wp2;go_ret;exact⟨rfl,(qZ _ _).alloc (qY _) _⟩
 ·rw [pO x k (by rw [h.len];omega)];exact Sf A n c k w (.inr zb)
def tN (w:World)(A:ze):Prop:=∀ad,A=some ad->w.heap.size<=ad.block
theorem tN.none_ (w:World):tN w none:=λ_ e=>by cases e
theorem tN.from_ (h:tN w1 A)(hb:Below w.heap.size w w1):tN w A:=λad e=>qL hb.size (h ad e)
def xp (w:World)(x:Nat)(e:Ending)(w':World):Prop:=∃(A:ze) (n c:Nat),e=.returned (.agg #[.slice A n c])/\zn w' x A n c/\Below w.heap.size w w'/\tN w A
theorem xp.from_ {e:Ending}(h:xp w1 x e w')(hb:Below w.heap.size w w1):xp w x e w':=by
 obtain⟨A,n,c,he,hn,h3,h4⟩:=h;exact⟨A,n,c,he,hn,hb.trans (h3.mono hb.size),h4.from_ hb⟩
theorem ke (h:zn w x A n c){p:Addr}(hp:∀ad,A=some ad->ad.block≠p.block)(u:Value):zn (w.setCell p u) x A n c:=by
 obtain⟨hr,h1,h2⟩:=h;refine⟨⟨hr.1,λhn=>?_⟩,h1,h2⟩;obtain⟨ad,e,hb,hc⟩:=hr.2 hn;refine⟨ad,e,by simpa using hb,λj v hv=>?_⟩;refine(XP w p _ u (λe2=>hp ad e ?_)).trans (hc j v hv);have:=congrArg Addr.block e2;rw [y8] at this
 first|exact this|exact this.symm
theorem eQ {w2:World}(h:zn w2 x A n c)(hb:Below w.heap.size w w2){p:Addr}(hp:w.heap.size<=p.block)(hA:∀ad,A=some ad->ad.block≠p.block)(hf:tN w A)(u:Value):xp w x (.returned (.agg #[.slice A n c])) (w2.setCell p u):=
 ⟨A,n,c,rfl,ke h hA u,hb.setCell hp u,hf⟩
theorem uS (A:ze)(n c:Nat)(l:List Nat)(w:World)(hA:zH w w.heap.size 1 A n (zq .u64 l))(hl:zD 18446744073709551616 l)(hc:n<=c)(s:c<=9223372036854775807)(hn:n<=1099511627776):
  Calls prog 104 #[.slice A n c] w (xp w (dv 18446744073709551616 l)):=by
 have a:(dg 18446744073709551616 (dv 18446744073709551616 l)).length<=1099511627776:=by
  have h1:=wy (b:=18446744073709551616) zg _ _ (vg hl);have:=hA.len_;omega
 obtain⟨x,hx⟩:∃x,dv 18446744073709551616 l=x:=⟨_,rfl⟩;have T:∀o,zd (Calls prog 149 #[.slice A n c] (w.alloc o) (te (w.alloc o) w.heap.size A x)):=λo=>by
  have:=fB A n c w.heap.size l (w.alloc o) (hA.alloc (qY _) o) hl hc s hn;rw [hx] at this;exact this
 have HT:=za T;rw [hx] at a⊢;clear T hA hx;go_enter func104,ntmps104;go_wp2_with fail;refine(HT.o _).o.mono ?_;rintro e w1 ⟨A1,c1,rfl,j,h1,h2,_,rfl⟩;obtain⟨L,hL⟩:∃L,dg 18446744073709551616 x=L:=⟨_,rfl⟩;rw [hL] at j h1 a;have HL:=za hL;have k:=j.more (B':=(w.alloc (.cells #[.slice none 0 0] 37)).heap.size) zE;have C:=Vp A1 L.length c1 L _ k a;have HC:=za C;rw [hL];clear C j k h1 h2 hL;go_wp2_with fail;refine HC.o.mono ?_;rintro e w2 ⟨A2,c2,rfl,m,h3,⟨h4,i⟩,d⟩;have hf:w2.frozen? ⟨w.heap.size,0,none⟩=false:=by
  rw [d.frozen (p:=⟨w.heap.size,0,none⟩) zE];exact(zh.new w _ _).frozen 0
 have g:w2.cell? ⟨w.heap.size,0,none⟩=some (.slice none 0 0):=by
  rw [d.cell (p:=⟨w.heap.size,0,none⟩) zE];exact(zh.new w _ _).cell 0
 have G : zd (xp w x (.returned (.agg #[.slice A2 L.length c2])) (w2.setCell ⟨w.heap.size,0,none⟩ (.slice A2 L.length c2))) :=
  eQ ⟨by rw [HL.o];exact m,h3,h4⟩ (((qZ _ w).alloc (qY _) _).trans (d.mono zE)) (qY _) (λad e=>by have:=i ad e;simp at this;show ad.block≠w.heap.size;omega) (λad e=>by have:=i ad e;simp at this;omega) _
 clear m i d;go_wp2;refine bodyPost_ret (v:=.agg #[.slice A2 L.length c2]) (by simp [results,results104,go_sem,g]) rfl ?_;exact G.o
theorem lY (x:Nat)(A:ze)(n c:Nat)(w:World)(h:zn w x A n c)(hn:n<=1099511627776):
  Calls prog 101 #[.agg #[.slice A n c]] w (kv w x):=by
 obtain⟨hr,h1,h2⟩:=h;have a:=hr.len_;have C:∀o,Calls prog 147 #[.slice A n c] (w.alloc o) (sm (w.alloc o) n (zq .u64 (dg 18446744073709551616 x))):=λo=>
  Vp A n c _ (w.alloc o) ((hr.alloc (qY _) o).more zE) hn
 unfold kv;rw [a];obtain⟨L,hL⟩:∃L,zq .u64 (dg 18446744073709551616 x)=L:=⟨_,rfl⟩;rw [hL] at C⊢;have HC:=za C;clear C hr a hL;go_enter func101,ntmps101;go_wp2_with fail;refine(HC.o _).mono ?_;intro e w1 hg;have G:=za (hg.from_ ((qZ _ w).alloc (qY _) _));obtain⟨A1,c1,rfl,_,_,_,_⟩:=hg;go_wp2;go_ret;exact G.o
theorem UQ (x:Int)(w:World):Calls prog 159 #[.int .i64 x] w λe w'=>e=.returned (.bool false)/\w=w':=by
 go_enter func159,ntmps159;go_wp2;go_ret;exact⟨zE,rfl⟩
theorem UR (x:Int)(w:World):Calls prog 160 #[.int .u64 x] w λe w'=>e=.returned (.bool false)/\w=w':=by
 go_enter func160,ntmps160;go_wp2;go_ret;exact⟨zE,rfl⟩
theorem SF (x y:Nat)(w:World):Calls prog 128 #[.int .i64 x,.int .i64 y] w λe w'=>e=.returned (.int .i64 (z7 x y))/\w=w':=by
 have C:x<y/\zd (z7 x y= -1)\/y<x/\zd (z7 x y=1)\/¬ x<y/\¬ y<x/\zd (z7 x y=0):=by
  rcases XT x y with h|h|h
  ·exact .inl ⟨h,tn h⟩
  ·exact .inr (.inr ⟨zb,zb,lh h⟩)
  ·exact .inr (.inl ⟨h,sf h⟩)
 rcases C with⟨h,H⟩|⟨h,H⟩|⟨h,h',H⟩
 all_goals
  go_enter func128,ntmps128
  go_wp2_with fail
  refine(UQ _ _).mono ?_
  rintro e w' ⟨rfl,rfl⟩
  go_wp2_with fail
  refine(UQ _ _).mono ?_
  rintro e w' ⟨rfl,rfl⟩
  go_wp2
  go_ret
  exact⟨by rw [H.o];rfl,rfl⟩
theorem SI (x y:Nat)(w:World):Calls prog 130 #[.int .u64 x,.int .u64 y] w λe w'=>e=.returned (.int .i64 (z7 x y))/\w=w':=by
 have C:x<y/\zd (z7 x y= -1)\/y<x/\zd (z7 x y=1)\/¬ x<y/\¬ y<x/\zd (z7 x y=0):=by
  rcases XT x y with h|h|h
  ·exact .inl ⟨h,tn h⟩
  ·exact .inr (.inr ⟨zb,zb,lh h⟩)
  ·exact .inr (.inl ⟨h,sf h⟩)
 rcases C with⟨h,H⟩|⟨h,H⟩|⟨h,h',H⟩
 all_goals
  go_enter func130,ntmps130
  go_wp2_with fail
  refine(UR _ _).mono ?_
  rintro e w' ⟨rfl,rfl⟩
  go_wp2_with fail
  refine(UR _ _).mono ?_
  rintro e w' ⟨rfl,rfl⟩
  go_wp2
  go_ret
  exact⟨by rw [H.o];rfl,rfl⟩
def wC (w:World)(z:Int)(e:Ending)(w':World):Prop:=e=.returned (.int .i64 z)/\Below w.heap.size w w'
theorem Rl (x y:Nat)(A D:ze)(m c d:Nat)(w:World)(hA:zn w x A m c)(hD:zn w y D m d)(hm:m<=1099511627776):
  Calls prog 77 #[.agg #[.slice A m c],.agg #[.slice D m d]] w (wC w (z7 x y)):=by
 have o:=hA.len;have n:=hD.len;have H0:zd (x / 18446744073709551616^m=y / 18446744073709551616^m):=by
  show _=_;rw [QL (by rw [<-o];exact ym zg x),QL (by rw [<-n];exact ym zg y)]
 have u:=hA.1;have v:=hD.1;clear o n hA hD;go_enter func77,ntmps77;go_wp2_with fail;have t:Below w.heap.size w ((w.alloc (.cells #[.slice A m c] 37)).alloc (.cells #[.slice D m d] 37)).drew:=(((qZ _ w).alloc (qY _) _).alloc zE _).drew
 go_region_held3 (fun w' => Below w.heap.size w w' ∧ w'.cell? ⟨w.heap.size,0,none⟩ = some (.slice A m c) ∧ w'.cell? ⟨w.heap.size + 1,0,none⟩ = some (.slice D m d))
  (first|go_keep|(go_split_ands;exact⟨zc (by assumption) hb,zt hb (by first|assumption|simp),zt hb (by first|assumption|simp)⟩))
  (first
    |(go_at_call 102;refine(vN x _ _ _ _).mono ?_;rintro e w' ⟨rfl,hb⟩))
 rename_i hH
 obtain⟨hB,h1,h2⟩:=hH;clear hb;go_wp2_with fail;refine(vN x _ _ _ _).mono ?_;rintro e w2 ⟨rfl,a⟩;have s:=zc hB a;have g1:=zt a h1;have g2:=zt a h2;clear hB a h1 h2 t;go_wp2_with fail
 go_loopg [5,6] (m+1) (λg i _ wr=>∃(k:Nat),k<=m/\i=.int .i64 ((k:Int) - 1)/\zd (x / 18446744073709551616^k=y / 18446744073709551616^k)/\k<g/\Below w.heap.size w wr/\wr.cell? ⟨w.heap.size,0,none⟩=some (.slice A m c)/\wr.cell? ⟨w.heap.size+1,0,none⟩=some (.slice D m d))
 case atStart=>exact⟨m,qY _,rfl,H0,Nat.lt_succ_self _,s,g1,g2⟩
 case round=>
  obtain⟨k,hk,rfl,H,hg,hB,g1,g2⟩:=hrel;have rA:=u.below hB;have rD:=v.below hB;by_cases hk0:k=0
  ·subst hk0;have C:=za (lh (x:=x) (y:=y) (by have:=H.o;simpa using this));go_wp2;go_ret;exact⟨by rw [C.o];rfl,hB⟩
  ·obtain⟨j,rfl⟩:∃j,k=j+1:=⟨k - 1,zb⟩;obtain⟨ad,rfl,hadb,h1⟩:=wB rA (k:=j) zb;obtain⟨ae,rfl,haeb,h2⟩:=wB rD (k:=j) zb;rw [oH] at h1 h2;have L1:=za (λh=>fJ (b:=18446744073709551616) H.o h);have L2:=za (λh=>fJ (b:=18446744073709551616) H.o.symm h);have L3:=za (λh=>sX (b:=18446744073709551616) H.o h);obtain⟨p,hp⟩:∃p,wd x j=p:=⟨_,rfl⟩;obtain⟨r,hr⟩:∃p,wd y j=p:=⟨_,rfl⟩;unfold wd at hp hr;rw [hp,hr] at L1 L2 L3;rw [show wd x j=p from hp] at h1;rw [show wd y j=r from hr] at h2;clear hp hr;have CC:=za (λw=>SI p r w);have K:(z7 p r= -1/\zd (z7 x y= -1))\/(z7 p r=0/\zd (x / 18446744073709551616^j=y / 18446744073709551616^j))\/(z7 p r=1/\zd (z7 x y=1)):=by
    rcases XT p r with h|h|h
    ·exact .inl ⟨tn h,tn (L1.o h)⟩
    ·exact .inr (.inl ⟨lh h,L3.o h⟩)
    ·exact .inr (.inr ⟨sf h,sf (L2.o h)⟩)
   clear L1 L2 L3;rcases K with⟨e,C⟩|⟨e,M⟩|⟨e,C⟩
   ·rw [e] at CC;clear e;go_wp2_with fail;have s1:(0:Int)<=(j:Int):=zb;have s2:(j:Int)<(m:Int):=zb
    go_quiet ((go_at_call 130;exact lS (CC.o _)))
    go_wp2;go_ret;exact⟨by rw [C.o];rfl,un hB _⟩
   ·rw [e] at CC;clear e;go_wp2_with fail;have s1:(0:Int)<=(j:Int):=zb;have s2:(j:Int)<(m:Int):=zb
    go_quiet ((go_at_call 130;exact lS (CC.o _)))
    go_wp2;go_roundg (j+1)
    case measure=>omega
    case rel=>exact⟨j,zb,by go_num,M,zb,un hB _,g1,g2⟩
   ·rw [e] at CC;clear e;go_wp2_with fail;have s1:(0:Int)<=(j:Int):=zb;have s2:(j:Int)<(m:Int):=zb
    go_quiet ((go_at_call 130;exact lS (CC.o _)))
    go_wp2;go_ret;exact⟨by rw [C.o];rfl,un hB _⟩
theorem jM (x y:Nat)(A D:ze)(n m c d:Nat)(w:World)(hA:zn w x A n c)(hD:zn w y D m d)(hn:n<=1099511627776)(hm:m<=1099511627776):
  Calls prog 77 #[.agg #[.slice A n c],.agg #[.slice D m d]] w (wC w (z7 x y)):=by
 have i:=hA.len;have g:=hD.len;by_cases hne:n=m
 ·subst hne;exact Rl x y A D n c d w hA hD hn
 ·have C:z7 n m=z7 x y:=by
   rcases XT n m with h|h|h
   ·rw [tn h,tn (jU (b:=18446744073709551616) zg zb)]
   ·exact absurd h hne
   ·rw [sf h,sf (jU (b:=18446744073709551616) zg zb)]
  have hne':((n:Int)==(m:Int))=false:=by simp;omega
  have CC:∀w,Calls prog 128 #[.int .i64 n,.int .i64 m] w λe w'=>e=.returned (.int .i64 (z7 x y))/\w=w':=λw=>by rw [<-C];exact SF n m w
  have HC:=za CC;obtain⟨z,hz⟩:∃z,z7 x y=z:=⟨_,rfl⟩;rw [hz] at HC⊢;clear i g hne C CC hz;go_enter func77,ntmps77;go_wp2_with fail;have a:Below w.heap.size w ((w.alloc (.cells #[.slice A n c] 37)).alloc (.cells #[.slice D m d] 37)).drew:=(((qZ _ w).alloc (qY _) _).alloc zE _).drew
  go_region_held3 (fun w' => Below w.heap.size w w' ∧ w'.cell? ⟨w.heap.size,0,none⟩ = some (.slice A n c) ∧ w'.cell? ⟨w.heap.size + 1,0,none⟩ = some (.slice D m d))
   (first|go_keep|(go_split_ands;exact⟨zc (by assumption) hb,zt hb (by first|assumption|simp),zt hb (by first|assumption|simp)⟩))
   (first
     |(go_at_call 102;refine(vN x _ _ _ _).mono ?_;rintro e w' ⟨rfl,hb⟩))
  rename_i hH
  obtain⟨hB,h1,h2⟩:=hH;clear hb a;go_wp2_with fail;have a:Below w.heap.size w w'.drew:=hB.drew
  go_region_held3 (fun w' => Below w.heap.size w w' ∧ w'.cell? ⟨w.heap.size,0,none⟩ = some (.slice A n c) ∧ w'.cell? ⟨w.heap.size + 1,0,none⟩ = some (.slice D m d))
   (first|go_keep|(go_split_ands;exact⟨zc (by assumption) hb,zt hb (by first|assumption|simp),zt hb (by first|assumption|simp)⟩))
   (first
     |(go_at_call 102;refine(vN x _ _ _ _).mono ?_;rintro e w' ⟨rfl,hb⟩)
     |(go_at_call 128;refine(HC.o _).mono ?_;rintro e w' ⟨rfl,rfl⟩))
  obtain⟨hB,h1,h2⟩:=‹Below w.heap.size w _/\_›;go_wp2;go_ret;exact⟨rfl,hB⟩
set_option maxRecDepth 100000 in
theorem Q4 (hi lo y:Int)(h0:0<hi)(h1:hi<y)(hy:y<18446744073709551616)(hl:Wd lo)(w:World):
  Calls prog 209 #[.int .u64 hi,.int .u64 lo,.int .u64 y] w λe w'=>e=.returned (.tuple #[.int .u64 (vm hi lo y),.int .u64 (vn hi lo y)])/\w=w':=by
 obtain⟨N,O⟩:=hl;have H:=za (rL y (by unfold Wd;omega) w);obtain⟨s,S,hs,a,t⟩:=VD y zb hy;rw [S] at H;clear S;obtain⟨c,d,o⟩:=ni hi lo y s hs zb h1 N O;have j:=rh (hi*18446744073709551616+lo) y (2^s) (Int.pow_pos zg);obtain⟨Y,F⟩:∃Y,y*2^s=Y:=⟨_,rfl⟩;have A:lo / 2^(64 - s)<2^s:=by
  refine Int.ediv_lt_of_lt_mul (Int.pow_pos zg) ?_;rw [<-Int.pow_add,show s+(64 - s)=64 from by omega];simpa using O
 have v:0<=lo / 2^(64 - s):=YS N (Int.le_of_lt (Int.pow_pos zg));have ac:0<=hi*2^s:=YW zb (Int.le_of_lt (Int.pow_pos zg));have P:=mg hi (lo / 2^(64 - s)) s zb zb v A hs;have Z:IntKind.u64.wrap (hi*2^s)=hi*2^s:=by rw [QA];omega
 obtain⟨U,D⟩:∃U,hi*2^s+lo / 2^(64 - s)=U:=⟨_,rfl⟩;obtain⟨V,E⟩:∃V,lo*2^s%18446744073709551616=V:=⟨_,rfl⟩;have hV:0<=V/\V<18446744073709551616:=zb;have E1:zd (IntKind.u64.wrap (y*2^s)=Y):=by rw [F,QA];show _%_=_;omega
 have E3:zd (bits .or .u64 (IntKind.u64.wrap (hi*2^s)) (lo / 2^(64 - s))=U):=by rw [Z,P];exact D
 have E4:zd (IntKind.u64.wrap (lo*2^s)=V):=by rw [QA];exact E
 have E2:zd (bits .and .u64 Y 4294967295=Y%4294967296):=and_low32 Y zb zb;have E5:zd (bits .and .u64 V 4294967295=V%4294967296):=and_low32 V zb zb;rw [F] at a t d j;rw [D] at c d o;rw [E] at o;obtain⟨hV0,hV1⟩:=hV;have i:=kN U V Y c d;have D1:=uE.start (u:=V / 4294967296) c d a t zb zb;have b1:=D1.low;have b2:=D1.q_hi;have b3:=D1.sum;have G:0<=U / (Y / 4294967296):=YS c zb;have Q:0<=U / (Y / 4294967296)*(Y / 4294967296):=YW G zb;have hA:2147483648<=Y / 4294967296:=zb;have R:U - U / (Y / 4294967296)*(Y / 4294967296)<4294967296:=by
  have hm:=yQ U (Y / 4294967296);have ae:=YL U (show 0<Y / 4294967296 by omega);rw [yP] at hm;omega
 have L:=jS (U:=U) (u:=V / 4294967296) (Y:=Y) c d zb zb;have bT:=dM (U:=U) (u:=V / 4294967296) (Y:=Y) zb;have e6:=UC (U:=U) (u:=V / 4294967296) (Y:=Y) zb t;obtain⟨Q1,C⟩:∃q,ww U (V / 4294967296) Y=q:=⟨_,rfl⟩;obtain⟨T,hT⟩:∃q,wY U (V / 4294967296) Y=q:=⟨_,rfl⟩;rw [hT] at bT e6 i;rw [C] at L e6 i;obtain⟨m,n⟩:=bT;obtain⟨hQ10,hQ11⟩:=L;have D2:=uE.start (u:=V%4294967296) m n a t zb zb;have c1:=D2.low;have c2:=D2.q_hi;have af:0<=T / (Y / 4294967296):=YS m zb;have hp1:0<=T / (Y / 4294967296)*(Y / 4294967296):=YW af zb;have X:T - T / (Y / 4294967296)*(Y / 4294967296)<4294967296:=by
  have hm:=yQ T (Y / 4294967296);have ae:=YL T (show 0<Y / 4294967296 by omega);rw [yP] at hm;omega
 have K:=jS (U:=T) (u:=V%4294967296) (Y:=Y) m n zb zb;have M:=dM (U:=T) (u:=V%4294967296) (Y:=Y) zb;have e7:=UC (U:=T) (u:=V%4294967296) (Y:=Y) zb t;obtain⟨Q0,B⟩:∃q,ww T (V%4294967296) Y=q:=⟨_,rfl⟩;obtain⟨T0,z⟩:∃q,wY T (V%4294967296) Y=q:=⟨_,rfl⟩;rw [z] at M e7 i;rw [B] at K e7 i;obtain⟨hT00,hT01⟩:=M;obtain⟨hQ00,hQ01⟩:=K;have E6:zd (IntKind.u64.wrap (IntKind.u64.wrap (IntKind.u64.wrap (U*4294967296)+V / 4294967296) - IntKind.u64.wrap (Q1*Y))=T):=by
  rw [QA,QA,QA,QA];exact e6
 have E7:zd (IntKind.u64.wrap (IntKind.u64.wrap (IntKind.u64.wrap (T*4294967296)+V%4294967296) - IntKind.u64.wrap (Q0*Y))=T0):=by
  rw [QA,QA,QA,QA];exact e7
 have FQ:zd (Q1*4294967296+Q0=vm hi lo y):=by
  unfold vm;show _=_;rw [i.1,o];exact j.1
 have FR:zd (T0 / 2^s=vn hi lo y):=by
  unfold vn;show _=_;rw [i.2,o];exact j.2
 have aa:=za D1;have ab:=za D2;have J:=za C;have I:=za B;clear j o i F D E P Z b3 D1 D2 A v ac e6 e7 C B hT z;have z1:(y==0)=false:=beq_eq_false_iff_ne.2 zb;have z2:(hi==0)=false:=beq_eq_false_iff_ne.2 zb;have z3:decide (y<=hi)=false:=by simp;omega
 go_enter func209,ntmps209;go_upto_block 0 with(first|(go_at_call 210;refine H.o.mono ?_;rintro e w' ⟨rfl,rfl⟩)|simp only [E1.o,E2.o,E3.o,E4.o,E5.o]);clear E1 E2 E3 E4 E5 H
 go_cut [15,16] (λq _ wc=>q=.int .u64 Q1/\wc=w)
 case first=>
  go_wp2_with fail
  go_loopg [15,16] 4294967298 (λk q r wr=>∃q0 r0:Int,q=.int .u64 q0/\r=.int .u64 r0/\uE U (V / 4294967296) Y q0 r0/\r0<4294967296/\q0<k/\wr=w)
  case atStart=>exact⟨_,_,rfl,rfl,aa.o,R,zb,rfl⟩
  case round=>
   obtain⟨q,r,rfl,rfl,hd,hr,hk,rfl⟩:=hrel;obtain⟨g0,g1,g2,g3,g4⟩:=hd.room c d zb zb hr;by_cases ht:4294967296<=q\/4294967296*r+V / 4294967296<q*(Y%4294967296)
   ·have g:=hd.down c d a zb zb ht;have G:=(jS (U:=U) (u:=V / 4294967296) (Y:=Y) c d zb zb).1;have ad:=g.q_lo;have ag:=hd.q_hi;have Q:1<=q:=zb;go_wp2
    all_goals first
     |(go_meet;exact⟨congrArg (Value.int .u64) ((g.past a zb zb zb).trans J.o),rfl⟩)
     | (go_roundg (gk - 1)
        case measure=>omega
        case rel=>exact⟨_,_,rfl,rfl,g,zb,zb,rfl⟩)
   ·go_wp2;go_meet;exact⟨congrArg (Value.int .u64) ((hd.done a zb).trans J.o),rfl⟩
 case rest=>
  obtain⟨rfl,rfl⟩:=hcut;go_upto_block 2 with(simp only [E6.o]);clear E6
  go_cut [18,16] (λq _ wd=>q=.int .u64 Q0/\wd=wc)
  case first=>
   go_wp2_with fail
   go_loopg [18,16] 4294967298 (λk q r wr=>∃q0 r0:Int,q=.int .u64 q0/\r=.int .u64 r0/\uE T (V%4294967296) Y q0 r0/\r0<4294967296/\q0<k/\wr=wc)
   case atStart=>exact⟨_,_,rfl,rfl,ab.o,X,zb,rfl⟩
   case round=>
    obtain⟨q,r,rfl,rfl,hd,hr,hk,rfl⟩:=hrel;obtain⟨g0,g1,g2,g3,g4⟩:=hd.room m n zb zb hr;by_cases ht:4294967296<=q\/4294967296*r+V%4294967296<q*(Y%4294967296)
    ·have g:=hd.down m n a zb zb ht;have G:=(jS (U:=T) (u:=V%4294967296) (Y:=Y) m n zb zb).1;have ad:=g.q_lo;have ag:=hd.q_hi;have Q:1<=q:=zb;go_wp2
     all_goals first
      |(go_meet;exact⟨congrArg (Value.int .u64) ((g.past a zb zb zb).trans I.o),rfl⟩)
      | (go_roundg (gk - 1)
         case measure=>omega
         case rel=>exact⟨_,_,rfl,rfl,g,zb,zb,rfl⟩)
    ·go_wp2;go_meet;exact⟨congrArg (Value.int .u64) ((hd.done a zb).trans I.o),rfl⟩
  case rest=>
   obtain⟨rfl,rfl⟩:=hcut;go_wp2_with (simp only [E7.o]);simp only [FQ.o,FR.o]
   go_ret2
   exact⟨rfl,rfl⟩
theorem Sh (lo y:Int)(h1:0<y)(hy:y<18446744073709551616)(hl:Wd lo)(w:World):
  Calls prog 209 #[.int .u64 0,.int .u64 lo,.int .u64 y] w λe w'=>e=.returned (.tuple #[.int .u64 (vm 0 lo y),.int .u64 (vn 0 lo y)])/\∃n,w'=w.drewN n:=by
 obtain⟨a,c⟩:=hl;have z1:(y==0)=false:=beq_eq_false_iff_ne.2 zb;have z3:decide (y<=0)=false:=by simp;omega
 have q0:0<=lo / y:=YS a zb;have q1:lo / y<18446744073709551616:=Int.lt_of_le_of_lt (Int.ediv_le_self y a) c;have r0:0<=lo%y:=YA _ zb;have r1:lo%y<18446744073709551616:=Int.lt_trans (YL _ h1) hy;have FQ:zd (lo / y=vm 0 lo y):=by unfold vm;show _=_;simp
 have FR:zd (lo%y=vn 0 lo y):=by unfold vn;show _=_;simp
 go_enter func209,ntmps209;go_wp2
 go_quiet (fail)
 go_wp2;simp only [FQ.o,FR.o]
 go_ret2
 exact⟨rfl,_,rfl⟩
theorem gl (hi lo y:Int)(h0:Wd hi)(h1:hi<y)(hy:y<18446744073709551616)(hl:Wd lo)(w:World):
  Calls prog 209 #[.int .u64 hi,.int .u64 lo,.int .u64 y] w λe w'=>e=.returned (.tuple #[.int .u64 (vm hi lo y),.int .u64 (vn hi lo y)])/\∃n,w'=w.drewN n:=by
 by_cases hz:hi=0
 ·subst hz;exact Sh lo y h1 hy hl w
 ·refine(Q4 hi lo y (by have:=h0.1;omega) h1 hy hl w).mono ?_;rintro e w' ⟨rfl,rfl⟩;exact⟨rfl,0,rfl⟩
theorem SB (hi lo y:Int)(h0:Wd hi)(h1:hi<y)(hy:y<18446744073709551616)(hl:Wd lo)(w:World):
  Calls prog 201 #[.int .u64 hi,.int .u64 lo,.int .u64 y] w λe w'=>e=.returned (.tuple #[.int .u64 (vm hi lo y),.int .u64 (vn hi lo y),.bool true])/\∃n,w'=w.drewN n:=by
 have H:=za (gl hi lo y h0 h1 hy hl w);have z1:decide (y<=hi)=false:=by simp;omega
 go_enter func201,ntmps201;go_wp2_with (go_at_call 209;refine H.o.mono ?_;rintro e w' ⟨rfl,n,rfl⟩)
 go_ret3
 exact⟨rfl,n,rfl⟩
theorem SP (hi lo y:Int)(h1:y<=hi)(w:World):
  Calls prog 201 #[.int .u64 hi,.int .u64 lo,.int .u64 y] w λe w'=>e=.returned (.tuple #[.int .u64 0,.int .u64 0,.bool false])/\w=w':=by
 have z1:decide (y<=hi)=true:=by simp;omega
 go_enter func201,ntmps201;go_wp2
 go_ret3
 exact⟨rfl,rfl⟩
