/- What this claim leans on. -/
import Derived.Test.YtipmllfnpldbdaaGreatDoorYBunD
import Derived.Deep.LoopGhost
import Derived.KernelRfl
import Derived.Lib.SliceRun
import Derived.LoopTactic
set_option linter.unusedVariables false
set_option linter.unusedSimpArgs false
namespace Go.Proofs.YtipmllfnpldbdaaGreatDoor
open Go Go.RowKit Go.Proofs.Tryz
set_option maxHeartbeats 16000000
variable {p0 p1 p2 p3 p4:Addr}{c x:Nat}{v v0 v1 v2 v3 v4:Value}{w w' w1:World}{A:zf}
theorem lu:(prog.info? 3).map (λi=>(i.zero,i.size,i.bytes))=some (some (.int .i64 0),1,8):=zm
theorem rN:(prog.info? 141).map (λi=>(i.zero,i.size,i.bytes))=some (some (.int .u64 0),1,8):=zm
set_option maxRecDepth 100000
def vE (w:World)(B:Nat)(A:zf)(x:Nat)(e:Ending)(w':World):Prop:=
 ∃(A':zf) (c':Nat),e=.returned (.slice A' (dg 18446744073709551616 x).length c')/\zE w B 1 A' (dg 18446744073709551616 x).length (zw .u64 (dg 18446744073709551616 x))/\(dg 18446744073709551616 x).length<=c'/\c'<=9223372036854775807/\(A'=A\/A'=none)/\w=w'
theorem lW (A:zf)(n c B:Nat)(l:List Nat)(w:World)(hA:zE w B 1 A n (zw .u64 l))(hl:zC 18446744073709551616 l)(hc:n<=c)(h:c<=9223372036854775807)(hn:n<=1099511627776):
  Calls prog 108 #[.slice A n c] w (vE w B A (dv 18446744073709551616 l)):=by
 have HL:=zd hA.len_;go_enter func108,ntmps108;go_wp2
 go_loop [3] (λs=>∃m:Nat,m<=n/\s=.int .i64 m/\zg (dv 18446744073709551616 (l.take m)=dv 18446744073709551616 l)) (λs=>(intOf s).toNat)
 case atStart=>exact⟨n,qX _,rfl,by show _=_;rw [qV (by have:=HL.o;omega)]⟩
 case round=>
  obtain⟨m,hm,rfl,H⟩:=hrel;by_cases hm0:m=0
  ·subst hm0;have G:zg (vE w B A (dv 18446744073709551616 l) (.returned (.slice none 0 0)) w):=by
    have e:dv 18446744073709551616 l=0:=by have:=H.o;simpa [dv] using this.symm
    rw [e];exact⟨none,0,rfl,zE.none_,qX _,za,.inr rfl,rfl⟩
   go_wp2;go_ret;exact G.o
  ·obtain⟨j,rfl⟩:∃j,m=j+1:=⟨m - 1,za⟩;have a:=hA.take_ hm;rw [Uu] at a;obtain⟨ad,rfl,hadb,g⟩:=ug hA (k:=j) za;by_cases hz:l.getD j 0=0
   ·have HM:=zd ((V4 18446744073709551616 (l:=l) (n:=j) (by have:=HL.o;omega) hz).symm.trans H.o);rw [hz] at g;clear hz a;go_wp2
    go_round
    case rel=>exact⟨j,za,by go_num,HM⟩
    case measure=>simp only [intOf];omega
   ·have i:(((l.getD j 0:Nat):Int)==0)=false:=beq_eq_false_iff_ne.2 za;have G:zg (vE w B (some ad) (dv 18446744073709551616 l) (.returned (.slice (some ad) (j+1) c)) w):=by
     have e:=qj zh hl (by have:=HL.o;omega) H.o (.inr hz);have e2:(dg 18446744073709551616 (dv 18446744073709551616 l)).length=j+1:=by rw [<-e,QY];have:=HL.o;omega
     refine⟨some ad,c,by rw [e2],?_,za,h,.inl rfl,rfl⟩;rw [e2,<-e];exact a
    obtain⟨d,hd⟩:∃d,l.getD j 0=d:=⟨_,rfl⟩;rw [hd] at g i;clear hz hd a;go_wp2;go_ret;exact G.o
theorem WO (w:World)(l:List Nat)(hl:l=[]):uF w 0 (zw .u64 l) (.returned (.slice none 0 0)) w:=by
 subst hl;exact⟨none,0,rfl,zE.none_,qX _,⟨za,by intro ad e;cases e⟩,qY _ _⟩
def lU (w:World)(n:Nat)(xs:List Value)(e:Ending)(w':World):Prop:=∃v,e=.returned v/\w'.ownsRow w.heap.size 141 1 v n xs/\Below w.heap.size w w'
theorem fP (ad:Addr)(n c:Nat)(l:List Nat)(w:World)(hA:zE w w.heap.size 1 (some ad) n (zw .u64 l))(hn:n<=1099511627776):
  Calls prog 107 #[.slice (some ad) n c] w (lU w n (zw .u64 l)):=by
 obtain⟨i0,t,u,v,x⟩:=info_parts rN;have q:∀(w:World) (a:zf) (n c n' c':Nat),(binOp .eql 54 (.slice a n c) (.slice none n' c')).run prog w=.ok (.bool a.isNone) w:=λw a n c n' c'=>Lib.run_eql_slice_nil w _ _ a n c n' c' underlying54;have j:∀o,zE (w.alloc o) w.heap.size 1 (some ad) n (zw .u64 l):=λo=>hA.alloc (qX _) o;go_enter func107,ntmps107;go_wp2_with (at_builtin;refine ZH _ rfl (.tmp 5) (.tmp 6) 54 rfl w.heap.size 141 i0 (.int .u64 0) 1 8 underlying54 t u v x rfl zh (.slice (some ⟨w.heap.size,0,none⟩) 0 0) 0 [] rfl (World.ownsRow_made w #[] 0 (qX _) (xQ _) rfl) _ (some ad) n c (zw .u64 l) rfl (j _) (js _ _) (by unfold maxLen;omega) za zD ?_;intro v' w1 h d m);have i:Below w.heap.size w w1:=((qY _ w).alloc (qX _) _).grown d zD (λg hg=>by simp [Value.ownBlock] at hg;omega);have G:zg (lU w n (zw .u64 l) (.returned v') w1):=⟨v',rfl,by simpa using h,i⟩;clear h d m i;go_wp2;go_ret;exact G.o
theorem ZT (c:Nat)(w:World):Calls prog 107 #[.slice none 0 c] w λe w'=>e=.returned (.slice none 0 0)/\w=w':=by
 have q:∀(w:World) (a:zf) (n c n' c':Nat),(binOp .eql 54 (.slice a n c) (.slice none n' c')).run prog w=.ok (.bool a.isNone) w:=λw a n c n' c'=>Lib.run_eql_slice_nil w _ _ a n c n' c' underlying54;go_enter func107,ntmps107;go_wp2;go_ret;exact⟨rfl,rfl⟩
theorem dU (A:zf)(n c:Nat)(l:List Nat)(w:World)(hA:zE w w.heap.size 1 A n (zw .u64 l))(hn:n<=1099511627776):
  Calls prog 107 #[.slice A n c] w (uF w n (zw .u64 l)):=by
 rcases A with _|ad
 ·have q:∀(w:World) (a:zf) (n c n' c':Nat),(binOp .eql 54 (.slice a n c) (.slice none n' c')).run prog w=.ok (.bool a.isNone) w:=λw a n c n' c'=>Lib.run_eql_slice_nil w _ _ a n c n' c' underlying54;have d:n=0:=by
   rcases QS n with h|h
   ·exact h
   ·obtain⟨ad,e,_⟩:=hA.2 h;cases e
  subst d;have G:=zd (WO w l (qM hA.len_));go_enter func107,ntmps107;go_wp2;go_ret;exact G.o
 ·exact(fP ad n c l w hA hn).mono λe w' ⟨v,he,ho,hb⟩=>by rw [he];exact ZX ho hb
def zp (w:World)(x:Nat)(A:zf)(n c:Nat):Prop:=zE w w.heap.size 1 A n (zw .u64 (dg 18446744073709551616 x))/\n<=c/\c<=9223372036854775807
theorem zp.len {n:Nat}(h:zp w x A n c):(dg 18446744073709551616 x).length=n:=h.1.len_
theorem zp.below {n:Nat}(h:zp w x A n c)(hb:Below w.heap.size w w'):zp w' x A n c:=
 ⟨(h.1.below hb).more hb.size,h.2⟩
theorem zp.drewN {n:Nat}(h:zp w x A n c)(k:Nat):zp (w.drewN k) x A n c:=h
theorem od.words (h:od w x v):∃(A:zf) (n c:Nat),v=.agg #[.slice A n c]/\zp w x A n c:=h
theorem zq {p:Addr}(hb:Below w.heap.size w w')(h:w.cell? p=some v):w'.cell? p=some v:=(hb.cell (qT w p h)).trans h
theorem zX (hb:Below w.heap.size w w')(h0:w.cell? p0=some v0)(h1:w.cell? p1=some v1):w'.cell? p0=some v0/\w'.cell? p1=some v1:=⟨zq hb h0,zq hb h1⟩
theorem zU (hb:Below w.heap.size w w')(h0:w.cell? p0=some v0)(h1:w.cell? p1=some v1)(h2:w.cell? p2=some v2):w'.cell? p0=some v0/\w'.cell? p1=some v1/\w'.cell? p2=some v2:=⟨zq hb h0,zq hb h1,zq hb h2⟩
theorem sX (hb:Below w.heap.size w w')(h0:w.cell? p0=some v0)(h1:w.cell? p1=some v1)(h2:w.cell? p2=some v2)(h3:w.cell? p3=some v3):w'.cell? p0=some v0/\w'.cell? p1=some v1/\w'.cell? p2=some v2/\w'.cell? p3=some v3:=⟨zq hb h0,zq hb h1,zq hb h2,zq hb h3⟩
theorem ib (hb:Below w.heap.size w w')(h0:w.cell? p0=some v0)(h1:w.cell? p1=some v1)(h2:w.cell? p2=some v2)(h3:w.cell? p3=some v3)(h4:w.cell? p4=some v4):w'.cell? p0=some v0/\w'.cell? p1=some v1/\w'.cell? p2=some v2/\w'.cell? p3=some v3/\w'.cell? p4=some v4:=⟨zq hb h0,zq hb h1,zq hb h2,zq hb h3,zq hb h4⟩
theorem zM {p5:Addr}{v5:Value}(hb:Below w.heap.size w w')(h0:w.cell? p0=some v0)(h1:w.cell? p1=some v1)(h2:w.cell? p2=some v2)(h3:w.cell? p3=some v3)(h4:w.cell? p4=some v4)(h5:w.cell? p5=some v5):w'.cell? p0=some v0/\w'.cell? p1=some v1/\w'.cell? p2=some v2/\w'.cell? p3=some v3/\w'.cell? p4=some v4/\w'.cell? p5=some v5:=⟨zq hb h0,zq hb h1,zq hb h2,zq hb h3,zq hb h4,zq hb h5⟩
theorem ze (h:Below w.heap.size w w1)(hb:Below w1.heap.size w1 w'):Below w.heap.size w w':=h.trans (hb.mono h.size)
def wd (x k:Nat):Nat:=x / 18446744073709551616^k%18446744073709551616
theorem xl (x k:Nat):wd x k<18446744073709551616:=QI _ zh
theorem rM (x k:Nat):(dg 18446744073709551616 x).getD k 0=wd x k:=by rw [nU zh (vp zh x),wV zh];rfl
theorem sS (x k:Nat)(h:(dg 18446744073709551616 x).length<=k):wd x k=0:=by
 rw [<-rM,qQ,xP h];rfl
theorem wN (x:Nat)(A:zf)(n c:Nat)(w:World):Calls prog 86 #[.agg #[.slice A n c]] w λe w'=>e=.returned (.int .i64 n)/\Below w.heap.size w w':=by
 go_enter func86,ntmps86;go_wp2;go_ret;exact⟨rfl,(qY _ _).alloc (qX _) _⟩
theorem bO (A:zf)(n c:Nat)(w:World):Calls prog 100 #[.agg #[.slice A n c]] w λe w'=>e=.returned (.bool (decide (n=0)))/\Below w.heap.size w w':=by
 have e:((n:Int)==0)=decide (n=0):=by rw [Bool.eq_iff_iff];simp
 have E:=zd e;clear e;go_enter func100,ntmps100;go_wp2;go_ret;exact⟨by rw [E.o];rfl,(qY _ _).alloc (qX _) _⟩
theorem Z1 (A:zf)(n c:Nat)(k:Int)(w:World)(hk:k<0\/(n:Int)<=k):Calls prog 118 #[.agg #[.slice A n c],.int .i64 k] w λe w'=>e=.returned (.int .u64 0)/\Below w.heap.size w w':=by
 by_cases h0:k<0
 ·clear hk;go_enter func118,ntmps118;go_wp2;go_ret;exact⟨rfl,(qY _ _).alloc (qX _) _⟩
 ·have h1:(n:Int)<=k:=za;clear hk;go_enter func118,ntmps118;go_wp2;go_ret;exact⟨rfl,(qY _ _).alloc (qX _) _⟩
theorem oH (x:Nat)(A:zf)(n c k:Nat)(w:World)(h:zp w x A n c):Calls prog 118 #[.agg #[.slice A n c],.int .i64 k] w λe w'=>e=.returned (.int .u64 (wd x k:Nat))/\Below w.heap.size w w':=by
 by_cases hk:k<n
 ·obtain⟨hr,h1,h2⟩:=h;obtain⟨ad,rfl,a,hc⟩:=ug hr hk;rw [rM] at hc;obtain⟨d,hd⟩:∃d,wd x k=d:=⟨_,rfl⟩;rw [hd] at hc⊢;have hc':∀o,(w.alloc o).cell? (ad.add k)=some (.int .u64 d):=λo=>(World.cell?_alloc_lt w o _ (by rw [y9];exact a)).trans hc;clear hd hr;go_enter func118,ntmps118;go_wp2;go_ret;exact⟨rfl,(qY _ _).alloc (qX _) _⟩
 ·rw [sS x k (by rw [h.len];omega)];exact Z1 A n c k w (.inr za)
def uk (w:World)(A:zf):Prop:=∀ad,A=some ad->w.heap.size<=ad.block
theorem uk.none_ (w:World):uk w none:=λ_ e=>by cases e
theorem uk.from_ (h:uk w1 A)(hb:Below w.heap.size w w1):uk w A:=λad e=>qC hb.size (h ad e)
def yq (w:World)(x:Nat)(e:Ending)(w':World):Prop:=∃(A:zf) (n c:Nat),e=.returned (.agg #[.slice A n c])/\zp w' x A n c/\Below w.heap.size w w'/\uk w A
theorem yq.from_ {e:Ending}(h:yq w1 x e w')(hb:Below w.heap.size w w1):yq w x e w':=by
 obtain⟨A,n,c,he,hn,h3,h4⟩:=h;exact⟨A,n,c,he,hn,hb.trans (h3.mono hb.size),h4.from_ hb⟩
theorem oF {n:Nat}(h:zp w x A n c){p:Addr}(hp:∀ad,A=some ad->ad.block≠p.block)(u:Value):zp (w.setCell p u) x A n c:=by
 obtain⟨hr,h1,h2⟩:=h;refine⟨⟨hr.1,λhn=>?_⟩,h1,h2⟩;obtain⟨ad,e,hb,hc⟩:=hr.2 hn;refine⟨ad,e,by simpa using hb,λj v hv=>?_⟩;refine(yL w p _ u (λe2=>hp ad e ?_)).trans (hc j v hv);have:=congrArg Addr.block e2;rw [y9] at this
 first|exact this|exact this.symm
theorem ji {w2:World}{n:Nat}(h:zp w2 x A n c)(hb:Below w.heap.size w w2){p:Addr}(hp:w.heap.size<=p.block)(hA:∀ad,A=some ad->ad.block≠p.block)(hf:uk w A)(u:Value):yq w x (.returned (.agg #[.slice A n c])) (w2.setCell p u):=
 ⟨A,n,c,rfl,oF h hA u,hb.setCell hp u,hf⟩
theorem vr (A:zf)(n c:Nat)(l:List Nat)(w:World)(hA:zE w w.heap.size 1 A n (zw .u64 l))(hl:zC 18446744073709551616 l)(hc:n<=c)(t:c<=9223372036854775807)(hn:n<=1099511627776):
  Calls prog 89 #[.slice A n c] w (yq w (dv 18446744073709551616 l)):=by
 have a:(dg 18446744073709551616 (dv 18446744073709551616 l)).length<=1099511627776:=by
  have h1:=pR (b:=18446744073709551616) zh _ _ (wh hl);have:=hA.len_;omega
 obtain⟨x,hx⟩:∃x,dv 18446744073709551616 l=x:=⟨_,rfl⟩;have T:∀o,zg (Calls prog 108 #[.slice A n c] (w.alloc o) (vE (w.alloc o) w.heap.size A x)):=λo=>by
  have:=lW A n c w.heap.size l (w.alloc o) (hA.alloc (qX _) o) hl hc t hn;rw [hx] at this;exact this
 have HT:=zd T;rw [hx] at a⊢;clear T hA hx;go_enter func89,ntmps89;go_wp2_with fail;refine(HT.o _).o.mono ?_;rintro e w1 ⟨A1,c1,rfl,i,h1,h2,_,rfl⟩;obtain⟨L,hL⟩:∃L,dg 18446744073709551616 x=L:=⟨_,rfl⟩;rw [hL] at i h1 a;have HL:=zd hL;have j:=i.more (B':=(w.alloc (.cells #[.slice none 0 0] 56)).heap.size) zD;have C:=dU A1 L.length c1 L _ j a;have HC:=zd C;rw [hL];clear C i j h1 h2 hL;go_wp2_with fail;refine HC.o.mono ?_;rintro e w2 ⟨A2,c2,rfl,m,h3,⟨h4,h⟩,d⟩;have hf:w2.frozen? ⟨w.heap.size,0,none⟩=false:=by
  rw [d.frozen (p:=⟨w.heap.size,0,none⟩) zD];exact(zi.new w _ _).frozen 0
 have g:w2.cell? ⟨w.heap.size,0,none⟩=some (.slice none 0 0):=by
  rw [d.cell (p:=⟨w.heap.size,0,none⟩) zD];exact(zi.new w _ _).cell 0
 have G : zg (yq w x (.returned (.agg #[.slice A2 L.length c2])) (w2.setCell ⟨w.heap.size,0,none⟩ (.slice A2 L.length c2))) :=
  ji ⟨by rw [HL.o];exact m,h3,h4⟩ (((qY _ w).alloc (qX _) _).trans (d.mono zD)) (qX _) (λad e=>by have:=h ad e;simp at this;show ad.block≠w.heap.size;omega) (λad e=>by have:=h ad e;simp at this;omega) _
 clear m h d;go_wp2;refine bodyPost_ret (v:=.agg #[.slice A2 L.length c2]) (by simp [results,results89,go_sem,g]) rfl ?_;exact G.o
theorem nM (x:Nat)(A:zf)(n c:Nat)(w:World)(h:zp w x A n c)(hn:n<=1099511627776):
  Calls prog 90 #[.agg #[.slice A n c]] w (gX w x):=by
 obtain⟨hr,h1,h2⟩:=h;have a:=hr.len_;have C:∀o,Calls prog 107 #[.slice A n c] (w.alloc o) (uF (w.alloc o) n (zw .u64 (dg 18446744073709551616 x))):=λo=>
  dU A n c _ (w.alloc o) ((hr.alloc (qX _) o).more zD) hn
 unfold gX;rw [a];obtain⟨L,hL⟩:∃L,zw .u64 (dg 18446744073709551616 x)=L:=⟨_,rfl⟩;rw [hL] at C⊢;have HC:=zd C;clear C hr a hL;go_enter func90,ntmps90;go_wp2_with fail;refine(HC.o _).mono ?_;intro e w1 hg;have G:=zd (hg.from_ ((qY _ w).alloc (qX _) _));obtain⟨A1,c1,rfl,_,_,_,_⟩:=hg;go_wp2;go_ret;exact G.o
