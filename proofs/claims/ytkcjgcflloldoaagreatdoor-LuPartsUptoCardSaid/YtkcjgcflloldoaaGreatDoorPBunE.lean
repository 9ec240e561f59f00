/- What this claim leans on. -/
import Derived.Test.YtkcjgcflloldoaaGreatDoorPBunD
import Derived.BigQuiet
import Derived.Deep.CutBlock
import Derived.Deep.DeepCutAuto
import Derived.Deep.LoopGhost
import Derived.Deep.RegionHeld3
import Derived.KernelRfl
import Derived.Lib.SliceRun
import Derived.LoopTactic
set_option linter.unusedVariables false
set_option linter.unusedSimpArgs false
namespace Go.Proofs.YtkcjgcflloldoaaGreatDoor
open Go Go.RowKit Go.Proofs.Tryz
set_option maxHeartbeats 16000000
variable {p0 p1 p2 p3:Addr}{c n x:Nat}{v v0 v1 v2 v3:Value}{w w' w1:World}{A:ze}
theorem kI:(prog.info? 3).map (λi=>(i.zero,i.size,i.bytes))=some (some (.int .i64 0),1,8):=zU
theorem o6:(prog.info? 125).map (λi=>(i.zero,i.size,i.bytes))=some (some (.int .u64 0),1,8):=zU
set_option maxRecDepth 100000
def tV (w:World)(B:Nat)(A:ze)(x:Nat)(e:Ending)(w':World):Prop:=
 ∃(A':ze) (c':Nat),e=.returned (.slice A' (dg 18446744073709551616 x).length c')/\zL w B 1 A' (dg 18446744073709551616 x).length (zt .u64 (dg 18446744073709551616 x))/\(dg 18446744073709551616 x).length<=c'/\c'<=9223372036854775807/\(A'=A\/A'=none)/\w=w'
theorem cG (A:ze)(n c B:Nat)(l:List Nat)(w:World)(hA:zL w B 1 A n (zt .u64 l))(hl:zH 18446744073709551616 l)(hc:n<=c)(i:c<=9223372036854775807)(hn:n<=1099511627776):
  Calls prog 140 #[.slice A n c] w (tV w B A (dv 18446744073709551616 l)):=by
 have HL:=zb hA.len_;go_enter func140,ntmps140;go_wp2
 go_loop [3] (λs=>∃m:Nat,m<=n/\s=.int .i64 m/\zd (dv 18446744073709551616 (l.take m)=dv 18446744073709551616 l)) (λs=>(intOf s).toNat)
 case atStart=>exact⟨n,qX _,rfl,by show _=_;rw [qV (by have:=HL.o;omega)]⟩
 case round=>
  obtain⟨m,hm,rfl,H⟩:=hrel;by_cases hm0:m=0
  ·subst hm0;have G:zd (tV w B A (dv 18446744073709551616 l) (.returned (.slice none 0 0)) w):=by
    have e:dv 18446744073709551616 l=0:=by have:=H.o;simpa [dv] using this.symm
    rw [e];exact⟨none,0,rfl,zL.none_,qX _,za,.inr rfl,rfl⟩
   go_wp2;go_ret;exact G.o
  ·obtain⟨j,rfl⟩:∃j,m=j+1:=⟨m - 1,za⟩;have a:=hA.take_ hm;rw [UL] at a;obtain⟨ad,rfl,hadb,g⟩:=wQ hA (k:=j) za;by_cases hz:l.getD j 0=0
   ·have HM:=zb ((UT 18446744073709551616 (l:=l) (n:=j) (by have:=HL.o;omega) hz).symm.trans H.o);rw [hz] at g;clear hz a;go_wp2
    go_round
    case rel=>exact⟨j,za,by go_num,HM⟩
    case measure=>simp only [intOf];omega
   ·have o:(((l.getD j 0:Nat):Int)==0)=false:=beq_eq_false_iff_ne.2 za;have G:zd (tV w B (some ad) (dv 18446744073709551616 l) (.returned (.slice (some ad) (j+1) c)) w):=by
     have e:=Sj zf hl (by have:=HL.o;omega) H.o (.inr hz);have e2:(dg 18446744073709551616 (dv 18446744073709551616 l)).length=j+1:=by rw [<-e,qL];have:=HL.o;omega
     refine⟨some ad,c,by rw [e2],?_,za,i,.inl rfl,rfl⟩;rw [e2,<-e];exact a
    obtain⟨d,hd⟩:∃d,l.getD j 0=d:=⟨_,rfl⟩;rw [hd] at g o;clear hz hd a;go_wp2;go_ret;exact G.o
theorem Pn (w:World)(l:List Nat)(hl:l=[]):rh w 0 (zt .u64 l) (.returned (.slice none 0 0)) w:=by
 subst hl;exact⟨none,0,rfl,zL.none_,qX _,⟨za,by intro ad e;cases e⟩,qZ _ _⟩
def cN (w:World)(n:Nat)(xs:List Value)(e:Ending)(w':World):Prop:=∃v,e=.returned v/\w'.ownsRow w.heap.size 125 1 v n xs/\Below w.heap.size w w'
theorem Ve (ad:Addr)(n c:Nat)(l:List Nat)(w:World)(hA:zL w w.heap.size 1 (some ad) n (zt .u64 l))(hn:n<=1099511627776):
  Calls prog 138 #[.slice (some ad) n c] w (cN w n (zt .u64 l)):=by
 obtain⟨i0,s,t,u,v⟩:=info_parts o6;have q:∀(w:World) (a:ze) (n c n' c':Nat),(binOp .eql 48 (.slice a n c) (.slice none n' c')).run prog w=.ok (.bool a.isNone) w:=λw a n c n' c'=>Lib.run_eql_slice_nil w _ _ a n c n' c' underlying48;have k:∀o,zL (w.alloc o) w.heap.size 1 (some ad) n (zt .u64 l):=λo=>hA.alloc (qX _) o;go_enter func138,ntmps138;go_wp2_with (at_builtin;refine bP _ rfl (.tmp 5) (.tmp 6) 48 rfl w.heap.size 125 i0 (.int .u64 0) 1 8 underlying48 s t u v rfl zf (.slice (some ⟨w.heap.size,0,none⟩) 0 0) 0 [] rfl (World.ownsRow_made w #[] 0 (qX _) (QQ _) rfl) _ (some ad) n c (zt .u64 l) rfl (k _) (iO _ _) (by unfold maxLen;omega) za zG ?_;intro v' w1 i d m);have j:Below w.heap.size w w1:=((qZ _ w).alloc (qX _) _).grown d zG (λg hg=>by simp [Value.ownBlock] at hg;omega);have G:zd (cN w n (zt .u64 l) (.returned v') w1):=⟨v',rfl,by simpa using i,j⟩;clear i d m j;go_wp2;go_ret;exact G.o
theorem Rt (c:Nat)(w:World):Calls prog 138 #[.slice none 0 c] w λe w'=>e=.returned (.slice none 0 0)/\w=w':=by
 have q:∀(w:World) (a:ze) (n c n' c':Nat),(binOp .eql 48 (.slice a n c) (.slice none n' c')).run prog w=.ok (.bool a.isNone) w:=λw a n c n' c'=>Lib.run_eql_slice_nil w _ _ a n c n' c' underlying48;go_enter func138,ntmps138;go_wp2;go_ret;exact⟨rfl,rfl⟩
theorem U6 (A:ze)(n c:Nat)(l:List Nat)(w:World)(hA:zL w w.heap.size 1 A n (zt .u64 l))(hn:n<=1099511627776):
  Calls prog 138 #[.slice A n c] w (rh w n (zt .u64 l)):=by
 rcases A with _|ad
 ·have q:∀(w:World) (a:ze) (n c n' c':Nat),(binOp .eql 48 (.slice a n c) (.slice none n' c')).run prog w=.ok (.bool a.isNone) w:=λw a n c n' c'=>Lib.run_eql_slice_nil w _ _ a n c n' c' underlying48;have d:n=0:=by
   rcases xQ n with h|h
   ·exact h
   ·obtain⟨ad,e,_⟩:=hA.2 h;cases e
  subst d;have G:=zb (Pn w l (QX hA.len_));go_enter func138,ntmps138;go_wp2;go_ret;exact G.o
 ·exact(Ve ad n c l w hA hn).mono λe w' ⟨v,he,ho,hb⟩=>by rw [he];exact Z1 ho hb
def zo (w:World)(x:Nat)(A:ze)(n c:Nat):Prop:=zL w w.heap.size 1 A n (zt .u64 (dg 18446744073709551616 x))/\n<=c/\c<=9223372036854775807
theorem zo.len (h:zo w x A n c):(dg 18446744073709551616 x).length=n:=h.1.len_
theorem zo.below (h:zo w x A n c)(hb:Below w.heap.size w w'):zo w' x A n c:=
 ⟨(h.1.below hb).more hb.size,h.2⟩
theorem zo.drewN (h:zo w x A n c)(k:Nat):zo (w.drewN k) x A n c:=h
theorem zo.nat (h:zo w x A n c):nG w x (.agg #[.slice A n c]):=⟨A,n,c,rfl,h⟩
theorem nG.words (h:nG w x v):∃(A:ze) (n c:Nat),v=.agg #[.slice A n c]/\zo w x A n c:=h
theorem zq {p:Addr}(hb:Below w.heap.size w w')(h:w.cell? p=some v):w'.cell? p=some v:=(hb.cell (xY w p h)).trans h
theorem xl (hb:Below w.heap.size w w')(h0:w.cell? p0=some v0)(h1:w.cell? p1=some v1):w'.cell? p0=some v0/\w'.cell? p1=some v1:=⟨zq hb h0,zq hb h1⟩
theorem yi (hb:Below w.heap.size w w')(h0:w.cell? p0=some v0)(h1:w.cell? p1=some v1)(h2:w.cell? p2=some v2):w'.cell? p0=some v0/\w'.cell? p1=some v1/\w'.cell? p2=some v2:=⟨zq hb h0,zq hb h1,zq hb h2⟩
theorem wt (hb:Below w.heap.size w w')(h0:w.cell? p0=some v0)(h1:w.cell? p1=some v1)(h2:w.cell? p2=some v2)(h3:w.cell? p3=some v3):w'.cell? p0=some v0/\w'.cell? p1=some v1/\w'.cell? p2=some v2/\w'.cell? p3=some v3:=⟨zq hb h0,zq hb h1,zq hb h2,zq hb h3⟩
theorem zR {p4:Addr}{v4:Value}{p5:Addr}{v5:Value}(hb:Below w.heap.size w w')(h0:w.cell? p0=some v0)(h1:w.cell? p1=some v1)(h2:w.cell? p2=some v2)(h3:w.cell? p3=some v3)(h4:w.cell? p4=some v4)(h5:w.cell? p5=some v5):w'.cell? p0=some v0/\w'.cell? p1=some v1/\w'.cell? p2=some v2/\w'.cell? p3=some v3/\w'.cell? p4=some v4/\w'.cell? p5=some v5:=⟨zq hb h0,zq hb h1,zq hb h2,zq hb h3,zq hb h4,zq hb h5⟩
theorem zc (h:Below w.heap.size w w1)(hb:Below w1.heap.size w1 w'):Below w.heap.size w w':=h.trans (hb.mono h.size)
def wd (x k:Nat):Nat:=x / 18446744073709551616^k%18446744073709551616
theorem wX (x k:Nat):wd x k<18446744073709551616:=QA _ zf
theorem nD (x k:Nat):(dg 18446744073709551616 x).getD k 0=wd x k:=by rw [jt zf (uA zf x),vw zf];rfl
theorem oM (x k:Nat)(h:(dg 18446744073709551616 x).length<=k):wd x k=0:=by
 rw [<-nD,qQ,QE h];rfl
theorem ui (x:Nat)(A:ze)(n c:Nat)(w:World):Calls prog 104 #[.agg #[.slice A n c]] w λe w'=>e=.returned (.int .i64 n)/\Below w.heap.size w w':=by
 go_enter func104,ntmps104;go_wp2;go_ret;exact⟨rfl,(qZ _ _).alloc (qX _) _⟩
theorem T3 (A:ze)(n c:Nat)(w:World):Calls prog 108 #[.agg #[.slice A n c]] w λe w'=>e=.returned (.bool (decide (n=0)))/\Below w.heap.size w w':=by
 have e:((n:Int)==0)=decide (n=0):=by rw [Bool.eq_iff_iff];simp
 have E:=zb e;clear e;go_enter func108,ntmps108;go_wp2;go_ret;exact⟨by rw [E.o];rfl,(qZ _ _).alloc (qX _) _⟩
theorem R5 (A:ze)(n c:Nat)(k:Int)(w:World)(hk:k<0\/(n:Int)<=k):Calls prog 145 #[.agg #[.slice A n c],.int .i64 k] w λe w'=>e=.returned (.int .u64 0)/\Below w.heap.size w w':=by
 by_cases h0:k<0
 ·clear hk;go_enter func145,ntmps145;go_wp2;go_ret;exact⟨rfl,(qZ _ _).alloc (qX _) _⟩
 ·have h1:(n:Int)<=k:=za;clear hk;go_enter func145,ntmps145;go_wp2;go_ret;exact⟨rfl,(qZ _ _).alloc (qX _) _⟩
theorem jp (x:Nat)(A:ze)(n c k:Nat)(w:World)(h:zo w x A n c):Calls prog 145 #[.agg #[.slice A n c],.int .i64 k] w λe w'=>e=.returned (.int .u64 (wd x k:Nat))/\Below w.heap.size w w':=by
 by_cases hk:k<n
 ·obtain⟨hr,h1,h2⟩:=h;obtain⟨ad,rfl,a,hc⟩:=wQ hr hk;rw [nD] at hc;obtain⟨d,hd⟩:∃d,wd x k=d:=⟨_,rfl⟩;rw [hd] at hc⊢;have hc':∀o,(w.alloc o).cell? (ad.add k)=some (.int .u64 d):=λo=>(World.cell?_alloc_lt w o _ (by rw [yw];exact a)).trans hc;clear hd hr;go_enter func145,ntmps145;go_wp2;go_ret;exact⟨rfl,(qZ _ _).alloc (qX _) _⟩
 ·rw [oM x k (by rw [h.len];omega)];exact R5 A n c k w (.inr za)
def sH (w:World)(A:ze):Prop:=∀ad,A=some ad->w.heap.size<=ad.block
theorem sH.none_ (w:World):sH w none:=λ_ e=>by cases e
theorem sH.from_ (h:sH w1 A)(hb:Below w.heap.size w w1):sH w A:=λad e=>qD hb.size (h ad e)
def wh (w:World)(x:Nat)(e:Ending)(w':World):Prop:=∃(A:ze) (n c:Nat),e=.returned (.agg #[.slice A n c])/\zo w' x A n c/\Below w.heap.size w w'/\sH w A
theorem wh.from_ {e:Ending}(h:wh w1 x e w')(hb:Below w.heap.size w w1):wh w x e w':=by
 obtain⟨A,n,c,he,hn,h3,h4⟩:=h;exact⟨A,n,c,he,hn,hb.trans (h3.mono hb.size),h4.from_ hb⟩
theorem jg (h:zo w x A n c){p:Addr}(hp:∀ad,A=some ad->ad.block≠p.block)(u:Value):zo (w.setCell p u) x A n c:=by
 obtain⟨hr,h1,h2⟩:=h;refine⟨⟨hr.1,λhn=>?_⟩,h1,h2⟩;obtain⟨ad,e,hb,hc⟩:=hr.2 hn;refine⟨ad,e,by simpa using hb,λj v hv=>?_⟩;refine(yY w p _ u (λe2=>hp ad e ?_)).trans (hc j v hv);have:=congrArg Addr.block e2;rw [yw] at this
 first|exact this|exact this.symm
theorem Zj {w2:World}(h:zo w2 x A n c)(hb:Below w.heap.size w w2){p:Addr}(hp:w.heap.size<=p.block)(hA:∀ad,A=some ad->ad.block≠p.block)(hf:sH w A)(u:Value):wh w x (.returned (.agg #[.slice A n c])) (w2.setCell p u):=
 ⟨A,n,c,rfl,jg h hA u,hb.setCell hp u,hf⟩
theorem tK (A:ze)(n c:Nat)(l:List Nat)(w:World)(hA:zL w w.heap.size 1 A n (zt .u64 l))(hl:zH 18446744073709551616 l)(hc:n<=c)(s:c<=9223372036854775807)(hn:n<=1099511627776):
  Calls prog 106 #[.slice A n c] w (wh w (dv 18446744073709551616 l)):=by
 have a:(dg 18446744073709551616 (dv 18446744073709551616 l)).length<=1099511627776:=by
  have h1:=wP (b:=18446744073709551616) zf _ _ (vy hl);have:=hA.len_;omega
 obtain⟨x,hx⟩:∃x,dv 18446744073709551616 l=x:=⟨_,rfl⟩;have T:∀o,zd (Calls prog 140 #[.slice A n c] (w.alloc o) (tV (w.alloc o) w.heap.size A x)):=λo=>by
  have:=cG A n c w.heap.size l (w.alloc o) (hA.alloc (qX _) o) hl hc s hn;rw [hx] at this;exact this
 have HT:=zb T;rw [hx] at a⊢;clear T hA hx;go_enter func106,ntmps106;go_wp2_with fail;refine(HT.o _).o.mono ?_;rintro e w1 ⟨A1,c1,rfl,j,h1,h2,_,rfl⟩;obtain⟨L,hL⟩:∃L,dg 18446744073709551616 x=L:=⟨_,rfl⟩;rw [hL] at j h1 a;have HL:=zb hL;have k:=j.more (B':=(w.alloc (.cells #[.slice none 0 0] 50)).heap.size) zG;have C:=U6 A1 L.length c1 L _ k a;have HC:=zb C;rw [hL];clear C j k h1 h2 hL;go_wp2_with fail;refine HC.o.mono ?_;rintro e w2 ⟨A2,c2,rfl,m,h3,⟨h4,i⟩,d⟩;have hf:w2.frozen? ⟨w.heap.size,0,none⟩=false:=by
  rw [d.frozen (p:=⟨w.heap.size,0,none⟩) zG];exact(zh.new w _ _).frozen 0
 have g:w2.cell? ⟨w.heap.size,0,none⟩=some (.slice none 0 0):=by
  rw [d.cell (p:=⟨w.heap.size,0,none⟩) zG];exact(zh.new w _ _).cell 0
 have G : zd (wh w x (.returned (.agg #[.slice A2 L.length c2])) (w2.setCell ⟨w.heap.size,0,none⟩ (.slice A2 L.length c2))) :=
  Zj ⟨by rw [HL.o];exact m,h3,h4⟩ (((qZ _ w).alloc (qX _) _).trans (d.mono zG)) (qX _) (λad e=>by have:=i ad e;simp at this;show ad.block≠w.heap.size;omega) (λad e=>by have:=i ad e;simp at this;omega) _
 clear m i d;go_wp2;refine bodyPost_ret (v:=.agg #[.slice A2 L.length c2]) (by simp [results,results106,go_sem,g]) rfl ?_;exact G.o
theorem ji (x:Nat)(A:ze)(n c:Nat)(w:World)(h:zo w x A n c)(hn:n<=1099511627776):
  Calls prog 103 #[.agg #[.slice A n c]] w (jy w x):=by
 obtain⟨hr,h1,h2⟩:=h;have a:=hr.len_;have C:∀o,Calls prog 138 #[.slice A n c] (w.alloc o) (rh (w.alloc o) n (zt .u64 (dg 18446744073709551616 x))):=λo=>
  U6 A n c _ (w.alloc o) ((hr.alloc (qX _) o).more zG) hn
 unfold jy;rw [a];obtain⟨L,hL⟩:∃L,zt .u64 (dg 18446744073709551616 x)=L:=⟨_,rfl⟩;rw [hL] at C⊢;have HC:=zb C;clear C hr a hL;go_enter func103,ntmps103;go_wp2_with fail;refine(HC.o _).mono ?_;intro e w1 hg;have G:=zb (hg.from_ ((qZ _ w).alloc (qX _) _));obtain⟨A1,c1,rfl,_,_,_,_⟩:=hg;go_wp2;go_ret;exact G.o
theorem SG (x:Int)(w:World):Calls prog 149 #[.int .i64 x] w λe w'=>e=.returned (.bool false)/\w=w':=by
 go_enter func149,ntmps149;go_wp2;go_ret;exact⟨zG,rfl⟩
theorem SI (x:Int)(w:World):Calls prog 150 #[.int .u64 x] w λe w'=>e=.returned (.bool false)/\w=w':=by
 go_enter func150,ntmps150;go_wp2;go_ret;exact⟨zG,rfl⟩
theorem Qs (x y:Nat)(w:World):Calls prog 122 #[.int .i64 x,.int .i64 y] w λe w'=>e=.returned (.int .i64 (yg x y))/\w=w':=by
 have C:x<y/\zd (yg x y= -1)\/y<x/\zd (yg x y=1)\/¬ x<y/\¬ y<x/\zd (yg x y=0):=by
  rcases XV x y with h|h|h
  ·exact .inl ⟨h,sh h⟩
  ·exact .inr (.inr ⟨za,za,ku h⟩)
  ·exact .inr (.inl ⟨h,s4 h⟩)
 rcases C with⟨h,H⟩|⟨h,H⟩|⟨h,h',H⟩
 all_goals
  go_enter func122,ntmps122
  go_wp2_with fail
  refine(SG _ _).mono ?_
  rintro e w' ⟨rfl,rfl⟩
  go_wp2_with fail
  refine(SG _ _).mono ?_
  rintro e w' ⟨rfl,rfl⟩
  go_wp2
  go_ret
  exact⟨by rw [H.o];rfl,rfl⟩
theorem Qu (x y:Nat)(w:World):Calls prog 128 #[.int .u64 x,.int .u64 y] w λe w'=>e=.returned (.int .i64 (yg x y))/\w=w':=by
 have C:x<y/\zd (yg x y= -1)\/y<x/\zd (yg x y=1)\/¬ x<y/\¬ y<x/\zd (yg x y=0):=by
  rcases XV x y with h|h|h
  ·exact .inl ⟨h,sh h⟩
  ·exact .inr (.inr ⟨za,za,ku h⟩)
  ·exact .inr (.inl ⟨h,s4 h⟩)
 rcases C with⟨h,H⟩|⟨h,H⟩|⟨h,h',H⟩
 all_goals
  go_enter func128,ntmps128
  go_wp2_with fail
  refine(SI _ _).mono ?_
  rintro e w' ⟨rfl,rfl⟩
  go_wp2_with fail
  refine(SI _ _).mono ?_
  rintro e w' ⟨rfl,rfl⟩
  go_wp2
  go_ret
  exact⟨by rw [H.o];rfl,rfl⟩
def wR (w:World)(z:Int)(e:Ending)(w':World):Prop:=e=.returned (.int .i64 z)/\Below w.heap.size w w'
theorem PE (x y:Nat)(A D:ze)(m c d:Nat)(w:World)(hA:zo w x A m c)(hD:zo w y D m d)(hm:m<=1099511627776):
  Calls prog 81 #[.agg #[.slice A m c],.agg #[.slice D m d]] w (wR w (yg x y)):=by
 have o:=hA.len;have n:=hD.len;have H0:zd (x / 18446744073709551616^m=y / 18446744073709551616^m):=by
  show _=_;rw [QB (by rw [<-o];exact yv zf x),QB (by rw [<-n];exact yv zf y)]
 have u:=hA.1;have v:=hD.1;clear o n hA hD;go_enter func81,ntmps81;go_wp2_with fail;have t:Below w.heap.size w ((w.alloc (.cells #[.slice A m c] 50)).alloc (.cells #[.slice D m d] 50)).drew:=(((qZ _ w).alloc (qX _) _).alloc zG _).drew
 go_region_held3 (fun w' => Below w.heap.size w w' ∧ w'.cell? ⟨w.heap.size,0,none⟩ = some (.slice A m c) ∧ w'.cell? ⟨w.heap.size + 1,0,none⟩ = some (.slice D m d))
  (first|go_keep|(go_split_ands;exact⟨zc (by assumption) hb,zq hb (by first|assumption|simp),zq hb (by first|assumption|simp)⟩))
  (first
    |(go_at_call 104;refine(ui x _ _ _ _).mono ?_;rintro e w' ⟨rfl,hb⟩))
 rename_i hH
 obtain⟨hB,h1,h2⟩:=hH;clear hb;go_wp2_with fail;refine(ui x _ _ _ _).mono ?_;rintro e w2 ⟨rfl,a⟩;have s:=zc hB a;have g1:=zq a h1;have g2:=zq a h2;clear hB a h1 h2 t;go_wp2_with fail
 go_loopg [5,6] (m+1) (λg i _ wr=>∃(k:Nat),k<=m/\i=.int .i64 ((k:Int) - 1)/\zd (x / 18446744073709551616^k=y / 18446744073709551616^k)/\k<g/\Below w.heap.size w wr/\wr.cell? ⟨w.heap.size,0,none⟩=some (.slice A m c)/\wr.cell? ⟨w.heap.size+1,0,none⟩=some (.slice D m d))
 case atStart=>exact⟨m,qX _,rfl,H0,Nat.lt_succ_self _,s,g1,g2⟩
 case round=>
  obtain⟨k,hk,rfl,H,hg,hB,g1,g2⟩:=hrel;have rA:=u.below hB;have rD:=v.below hB;by_cases hk0:k=0
  ·subst hk0;have C:=zb (ku (x:=x) (y:=y) (by have:=H.o;simpa using this));go_wp2;go_ret;exact⟨by rw [C.o];rfl,hB⟩
  ·obtain⟨j,rfl⟩:∃j,k=j+1:=⟨k - 1,za⟩;obtain⟨ad,rfl,hadb,h1⟩:=wQ rA (k:=j) za;obtain⟨ae,rfl,haeb,h2⟩:=wQ rD (k:=j) za;rw [nD] at h1 h2;have L1:=zb (λh=>bF (b:=18446744073709551616) H.o h);have L2:=zb (λh=>bF (b:=18446744073709551616) H.o.symm h);have L3:=zb (λh=>qe (b:=18446744073709551616) H.o h);obtain⟨p,hp⟩:∃p,wd x j=p:=⟨_,rfl⟩;obtain⟨r,hr⟩:∃p,wd y j=p:=⟨_,rfl⟩;unfold wd at hp hr;rw [hp,hr] at L1 L2 L3;rw [show wd x j=p from hp] at h1;rw [show wd y j=r from hr] at h2;clear hp hr;have CC:=zb (λw=>Qu p r w);have K:(yg p r= -1/\zd (yg x y= -1))\/(yg p r=0/\zd (x / 18446744073709551616^j=y / 18446744073709551616^j))\/(yg p r=1/\zd (yg x y=1)):=by
    rcases XV p r with h|h|h
    ·exact .inl ⟨sh h,sh (L1.o h)⟩
    ·exact .inr (.inl ⟨ku h,L3.o h⟩)
    ·exact .inr (.inr ⟨s4 h,s4 (L2.o h)⟩)
   clear L1 L2 L3;rcases K with⟨e,C⟩|⟨e,M⟩|⟨e,C⟩
   ·rw [e] at CC;clear e;go_wp2_with fail;have s1:(0:Int)<=(j:Int):=za;have s2:(j:Int)<(m:Int):=za
    go_quiet ((go_at_call 128;exact jd (CC.o _)))
    go_wp2;go_ret;exact⟨by rw [C.o];rfl,uY hB _⟩
   ·rw [e] at CC;clear e;go_wp2_with fail;have s1:(0:Int)<=(j:Int):=za;have s2:(j:Int)<(m:Int):=za
    go_quiet ((go_at_call 128;exact jd (CC.o _)))
    go_wp2;go_roundg (j+1)
    case measure=>omega
    case rel=>exact⟨j,za,by go_num,M,za,uY hB _,g1,g2⟩
   ·rw [e] at CC;clear e;go_wp2_with fail;have s1:(0:Int)<=(j:Int):=za;have s2:(j:Int)<(m:Int):=za
    go_quiet ((go_at_call 128;exact jd (CC.o _)))
    go_wp2;go_ret;exact⟨by rw [C.o];rfl,uY hB _⟩
theorem iT (x y:Nat)(A D:ze)(n m c d:Nat)(w:World)(hA:zo w x A n c)(hD:zo w y D m d)(hn:n<=1099511627776)(hm:m<=1099511627776):
  Calls prog 81 #[.agg #[.slice A n c],.agg #[.slice D m d]] w (wR w (yg x y)):=by
 have i:=hA.len;have g:=hD.len;by_cases hne:n=m
 ·subst hne;exact PE x y A D n c d w hA hD hn
 ·have C:yg n m=yg x y:=by
   rcases XV n m with h|h|h
   ·rw [sh h,sh (gn (b:=18446744073709551616) zf za)]
   ·exact absurd h hne
   ·rw [s4 h,s4 (gn (b:=18446744073709551616) zf za)]
  have hne':((n:Int)==(m:Int))=false:=by simp;omega
  have CC:∀w,Calls prog 122 #[.int .i64 n,.int .i64 m] w λe w'=>e=.returned (.int .i64 (yg x y))/\w=w':=λw=>by rw [<-C];exact Qs n m w
  have HC:=zb CC;obtain⟨z,hz⟩:∃z,yg x y=z:=⟨_,rfl⟩;rw [hz] at HC⊢;clear i g hne C CC hz;go_enter func81,ntmps81;go_wp2_with fail;have a:Below w.heap.size w ((w.alloc (.cells #[.slice A n c] 50)).alloc (.cells #[.slice D m d] 50)).drew:=(((qZ _ w).alloc (qX _) _).alloc zG _).drew
  go_region_held3 (fun w' => Below w.heap.size w w' ∧ w'.cell? ⟨w.heap.size,0,none⟩ = some (.slice A n c) ∧ w'.cell? ⟨w.heap.size + 1,0,none⟩ = some (.slice D m d))
   (first|go_keep|(go_split_ands;exact⟨zc (by assumption) hb,zq hb (by first|assumption|simp),zq hb (by first|assumption|simp)⟩))
   (first
     |(go_at_call 104;refine(ui x _ _ _ _).mono ?_;rintro e w' ⟨rfl,hb⟩))
  rename_i hH
  obtain⟨hB,h1,h2⟩:=hH;clear hb a;go_wp2_with fail;have a:Below w.heap.size w w'.drew:=hB.drew
  go_region_held3 (fun w' => Below w.heap.size w w' ∧ w'.cell? ⟨w.heap.size,0,none⟩ = some (.slice A n c) ∧ w'.cell? ⟨w.heap.size + 1,0,none⟩ = some (.slice D m d))
   (first|go_keep|(go_split_ands;exact⟨zc (by assumption) hb,zq hb (by first|assumption|simp),zq hb (by first|assumption|simp)⟩))
   (first
     |(go_at_call 104;refine(ui x _ _ _ _).mono ?_;rintro e w' ⟨rfl,hb⟩)
     |(go_at_call 122;refine(HC.o _).mono ?_;rintro e w' ⟨rfl,rfl⟩))
  obtain⟨hB,h1,h2⟩:=‹Below w.heap.size w _/\_›;go_wp2;go_ret;exact⟨rfl,hB⟩
set_option maxRecDepth 100000 in
theorem OQ (hi lo y:Int)(h0:0<hi)(h1:hi<y)(hy:y<18446744073709551616)(hl:Wd lo)(w:World):
  Calls prog 188 #[.int .u64 hi,.int .u64 lo,.int .u64 y] w λe w'=>e=.returned (.tuple #[.int .u64 (vD hi lo y),.int .u64 (vE hi lo y)])/\w=w':=by
 obtain⟨N,O⟩:=hl;have H:=zb (pi y (by unfold Wd;omega) w);obtain⟨s,S,hs,a,t⟩:=Tj y za hy;rw [S] at H;clear S;obtain⟨c,d,o⟩:=me hi lo y s hs za h1 N O;have j:=qj (hi*18446744073709551616+lo) y (2^s) (Int.pow_pos zf);obtain⟨Y,F⟩:∃Y,y*2^s=Y:=⟨_,rfl⟩;have A:lo / 2^(64 - s)<2^s:=by
  refine Int.ediv_lt_of_lt_mul (Int.pow_pos zf) ?_;rw [<-Int.pow_add,show s+(64 - s)=64 from by omega];simpa using O
 have v:0<=lo / 2^(64 - s):=YE N (Int.le_of_lt (Int.pow_pos zf));have ac:0<=hi*2^s:=jZ za (Int.le_of_lt (Int.pow_pos zf));have P:=ln hi (lo / 2^(64 - s)) s za za v A hs;have Z:IntKind.u64.wrap (hi*2^s)=hi*2^s:=by rw [QT];omega
 obtain⟨U,D⟩:∃U,hi*2^s+lo / 2^(64 - s)=U:=⟨_,rfl⟩;obtain⟨V,E⟩:∃V,lo*2^s%18446744073709551616=V:=⟨_,rfl⟩;have hV:0<=V/\V<18446744073709551616:=za;have E1:zd (IntKind.u64.wrap (y*2^s)=Y):=by rw [F,QT];show _%_=_;omega
 have E3:zd (bits .or .u64 (IntKind.u64.wrap (hi*2^s)) (lo / 2^(64 - s))=U):=by rw [Z,P];exact D
 have E4:zd (IntKind.u64.wrap (lo*2^s)=V):=by rw [QT];exact E
 have E2:zd (bits .and .u64 Y 4294967295=Y%4294967296):=and_low32 Y za za;have E5:zd (bits .and .u64 V 4294967295=V%4294967296):=and_low32 V za za;rw [F] at a t d j;rw [D] at c d o;rw [E] at o;obtain⟨hV0,hV1⟩:=hV;have i:=jO U V Y c d;have D1:=tr.start (u:=V / 4294967296) c d a t za za;have b1:=D1.low;have b2:=D1.q_hi;have b3:=D1.sum;have G:0<=U / (Y / 4294967296):=YE c za;have Q:0<=U / (Y / 4294967296)*(Y / 4294967296):=jZ G za;have hA:2147483648<=Y / 4294967296:=za;have R:U - U / (Y / 4294967296)*(Y / 4294967296)<4294967296:=by
  have hm:=yU U (Y / 4294967296);have ae:=YB U (show 0<Y / 4294967296 by omega);rw [yS] at hm;omega
 have L:=gh (U:=U) (u:=V / 4294967296) (Y:=Y) c d za za;have bT:=ZF (U:=U) (u:=V / 4294967296) (Y:=Y) za;have e6:=Si (U:=U) (u:=V / 4294967296) (Y:=Y) za t;obtain⟨Q1,C⟩:∃q,wN U (V / 4294967296) Y=q:=⟨_,rfl⟩;obtain⟨T,hT⟩:∃q,vo U (V / 4294967296) Y=q:=⟨_,rfl⟩;rw [hT] at bT e6 i;rw [C] at L e6 i;obtain⟨m,n⟩:=bT;obtain⟨hQ10,hQ11⟩:=L;have D2:=tr.start (u:=V%4294967296) m n a t za za;have c1:=D2.low;have c2:=D2.q_hi;have af:0<=T / (Y / 4294967296):=YE m za;have hp1:0<=T / (Y / 4294967296)*(Y / 4294967296):=jZ af za;have X:T - T / (Y / 4294967296)*(Y / 4294967296)<4294967296:=by
  have hm:=yU T (Y / 4294967296);have ae:=YB T (show 0<Y / 4294967296 by omega);rw [yS] at hm;omega
 have K:=gh (U:=T) (u:=V%4294967296) (Y:=Y) m n za za;have M:=ZF (U:=T) (u:=V%4294967296) (Y:=Y) za;have e7:=Si (U:=T) (u:=V%4294967296) (Y:=Y) za t;obtain⟨Q0,B⟩:∃q,wN T (V%4294967296) Y=q:=⟨_,rfl⟩;obtain⟨T0,z⟩:∃q,vo T (V%4294967296) Y=q:=⟨_,rfl⟩;rw [z] at M e7 i;rw [B] at K e7 i;obtain⟨hT00,hT01⟩:=M;obtain⟨hQ00,hQ01⟩:=K;have E6:zd (IntKind.u64.wrap (IntKind.u64.wrap (IntKind.u64.wrap (U*4294967296)+V / 4294967296) - IntKind.u64.wrap (Q1*Y))=T):=by
  rw [QT,QT,QT,QT];exact e6
 have E7:zd (IntKind.u64.wrap (IntKind.u64.wrap (IntKind.u64.wrap (T*4294967296)+V%4294967296) - IntKind.u64.wrap (Q0*Y))=T0):=by
  rw [QT,QT,QT,QT];exact e7
 have FQ:zd (Q1*4294967296+Q0=vD hi lo y):=by
  unfold vD;show _=_;rw [i.1,o];exact j.1
 have FR:zd (T0 / 2^s=vE hi lo y):=by
  unfold vE;show _=_;rw [i.2,o];exact j.2
 have aa:=zb D1;have ab:=zb D2;have J:=zb C;have I:=zb B;clear j o i F D E P Z b3 D1 D2 A v ac e6 e7 C B hT z;have z1:(y==0)=false:=beq_eq_false_iff_ne.2 za;have z2:(hi==0)=false:=beq_eq_false_iff_ne.2 za;have z3:decide (y<=hi)=false:=by simp;omega
 go_enter func188,ntmps188;go_upto_block 0 with(first|(go_at_call 189;refine H.o.mono ?_;rintro e w' ⟨rfl,rfl⟩)|simp only [E1.o,E2.o,E3.o,E4.o,E5.o]);clear E1 E2 E3 E4 E5 H
 go_cut [15,16] (λq _ wc=>q=.int .u64 Q1/\wc=w)
 case first=>
  go_wp2_with fail
  go_loopg [15,16] 4294967298 (λk q r wr=>∃q0 r0:Int,q=.int .u64 q0/\r=.int .u64 r0/\tr U (V / 4294967296) Y q0 r0/\r0<4294967296/\q0<k/\wr=w)
  case atStart=>exact⟨_,_,rfl,rfl,aa.o,R,za,rfl⟩
  case round=>
   obtain⟨q,r,rfl,rfl,hd,hr,hk,rfl⟩:=hrel;obtain⟨g0,g1,g2,g3,g4⟩:=hd.room c d za za hr;by_cases ht:4294967296<=q\/4294967296*r+V / 4294967296<q*(Y%4294967296)
   ·have g:=hd.down c d a za za ht;have G:=(gh (U:=U) (u:=V / 4294967296) (Y:=Y) c d za za).1;have ad:=g.q_lo;have ag:=hd.q_hi;have Q:1<=q:=za;go_wp2
    all_goals first
     |(go_meet;exact⟨congrArg (Value.int .u64) ((g.past a za za za).trans J.o),rfl⟩)
     | (go_roundg (gk - 1)
        case measure=>omega
        case rel=>exact⟨_,_,rfl,rfl,g,za,za,rfl⟩)
   ·go_wp2;go_meet;exact⟨congrArg (Value.int .u64) ((hd.done a za).trans J.o),rfl⟩
 case rest=>
  obtain⟨rfl,rfl⟩:=hcut;go_upto_block 2 with(simp only [E6.o]);clear E6
  go_cut [18,16] (λq _ wd=>q=.int .u64 Q0/\wd=wc)
  case first=>
   go_wp2_with fail
   go_loopg [18,16] 4294967298 (λk q r wr=>∃q0 r0:Int,q=.int .u64 q0/\r=.int .u64 r0/\tr T (V%4294967296) Y q0 r0/\r0<4294967296/\q0<k/\wr=wc)
   case atStart=>exact⟨_,_,rfl,rfl,ab.o,X,za,rfl⟩
   case round=>
    obtain⟨q,r,rfl,rfl,hd,hr,hk,rfl⟩:=hrel;obtain⟨g0,g1,g2,g3,g4⟩:=hd.room m n za za hr;by_cases ht:4294967296<=q\/4294967296*r+V%4294967296<q*(Y%4294967296)
    ·have g:=hd.down m n a za za ht;have G:=(gh (U:=T) (u:=V%4294967296) (Y:=Y) m n za za).1;have ad:=g.q_lo;have ag:=hd.q_hi;have Q:1<=q:=za;go_wp2
     all_goals first
      |(go_meet;exact⟨congrArg (Value.int .u64) ((g.past a za za za).trans I.o),rfl⟩)
      | (go_roundg (gk - 1)
         case measure=>omega
         case rel=>exact⟨_,_,rfl,rfl,g,za,za,rfl⟩)
    ·go_wp2;go_meet;exact⟨congrArg (Value.int .u64) ((hd.done a za).trans I.o),rfl⟩
  case rest=>
   obtain⟨rfl,rfl⟩:=hcut;go_wp2_with (simp only [E7.o]);simp only [FQ.o,FR.o]
   go_ret2
   exact⟨rfl,rfl⟩
theorem Qw (lo y:Int)(h1:0<y)(hy:y<18446744073709551616)(hl:Wd lo)(w:World):
  Calls prog 188 #[.int .u64 0,.int .u64 lo,.int .u64 y] w λe w'=>e=.returned (.tuple #[.int .u64 (vD 0 lo y),.int .u64 (vE 0 lo y)])/\∃n,w'=w.drewN n:=by
 obtain⟨a,c⟩:=hl;have z1:(y==0)=false:=beq_eq_false_iff_ne.2 za;have z3:decide (y<=0)=false:=by simp;omega
 have q0:0<=lo / y:=YE a za;have q1:lo / y<18446744073709551616:=Int.lt_of_le_of_lt (Int.ediv_le_self y a) c;have r0:0<=lo%y:=YM _ za;have r1:lo%y<18446744073709551616:=Int.lt_trans (YB _ h1) hy;have FQ:zd (lo / y=vD 0 lo y):=by unfold vD;show _=_;simp
 have FR:zd (lo%y=vE 0 lo y):=by unfold vE;show _=_;simp
 go_enter func188,ntmps188;go_wp2
 go_quiet (fail)
 go_wp2;simp only [FQ.o,FR.o]
 go_ret2
 exact⟨rfl,_,rfl⟩
theorem fS (hi lo y:Int)(h0:Wd hi)(h1:hi<y)(hy:y<18446744073709551616)(hl:Wd lo)(w:World):
  Calls prog 188 #[.int .u64 hi,.int .u64 lo,.int .u64 y] w λe w'=>e=.returned (.tuple #[.int .u64 (vD hi lo y),.int .u64 (vE hi lo y)])/\∃n,w'=w.drewN n:=by
 by_cases hz:hi=0
 ·subst hz;exact Qw lo y h1 hy hl w
 ·refine(OQ hi lo y (by have:=h0.1;omega) h1 hy hl w).mono ?_;rintro e w' ⟨rfl,rfl⟩;exact⟨rfl,0,rfl⟩
theorem Qm (hi lo y:Int)(h0:Wd hi)(h1:hi<y)(hy:y<18446744073709551616)(hl:Wd lo)(w:World):
  Calls prog 182 #[.int .u64 hi,.int .u64 lo,.int .u64 y] w λe w'=>e=.returned (.tuple #[.int .u64 (vD hi lo y),.int .u64 (vE hi lo y),.bool true])/\∃n,w'=w.drewN n:=by
 have H:=zb (fS hi lo y h0 h1 hy hl w);have z1:decide (y<=hi)=false:=by simp;omega
 go_enter func182,ntmps182;go_wp2_with (go_at_call 188;refine H.o.mono ?_;rintro e w' ⟨rfl,n,rfl⟩)
 go_ret3
 exact⟨rfl,n,rfl⟩
theorem PH (hi lo y:Int)(h1:y<=hi)(w:World):
  Calls prog 182 #[.int .u64 hi,.int .u64 lo,.int .u64 y] w λe w'=>e=.returned (.tuple #[.int .u64 0,.int .u64 0,.bool false])/\w=w':=by
 have z1:decide (y<=hi)=true:=by simp;omega
 go_enter func182,ntmps182;go_wp2
 go_ret3
 exact⟨rfl,rfl⟩
