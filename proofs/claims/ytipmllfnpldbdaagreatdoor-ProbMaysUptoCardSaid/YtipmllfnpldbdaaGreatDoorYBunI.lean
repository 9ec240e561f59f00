/- What this claim leans on. -/
import Derived.Test.YtipmllfnpldbdaaGreatDoorYBunG
import Derived.Test.YtipmllfnpldbdaaGreatDoorYBunH
set_option linter.unusedVariables false
set_option linter.unusedSimpArgs false
namespace Go.Proofs.YtipmllfnpldbdaaGreatDoor
open Go Go.RowKit Go.Proofs.Tryz
set_option maxHeartbeats 16000000
set_option maxRecDepth 100000
variable {L:List Nat}{G X Y a g x:Nat}{t:TypeId}{w:World}
theorem zy.shrink {n s:Nat}(h:zy w t g a n L)(hs:s<=n):zy w t g a s (L.take s):=by
 obtain⟨d,h0,h1,h2,h3,h4,h5⟩:=h;refine⟨d,h0,za,h2,h3,by rw [QY];omega,?_⟩;have e:=congrArg (List.take s) h5;rw [List.take_take,QO hs] at e;rw [e];unfold zw;rw [List.map_take]
theorem jv {w':World}{b n:Nat}(h:zW g w w')(hr:zy w t b a n L)(i:b≠g):zy w' t b a n L:=by
 obtain⟨d,h0,h1⟩:=hr;exact⟨d,h.blk h0 i,h1⟩
theorem dY (h:L.length=1):L.getD 0 0=dv 18446744073709551616 L:=by
 match L,h with
 |[a],_=>simp [dv]
theorem aK (w:World)(t:TypeId)(x:Nat):zy (w.alloc (.cells #[.int .u64 (x:Int)] t)) t w.heap.size 1 1 [x]:=
 ⟨_,zi.new w t _,qX _,by unfold maxLen;omega,rfl,rfl,rfl⟩
theorem dJ (h0:X - Y≠0)(a:Y<=X)(hG:Nat.gcd X Y=G)(hY:Y%2=1):
  (X - Y) / 2^yy (X - Y)%2=1/\Nat.gcd ((X - Y) / 2^yy (X - Y)) Y=G/\(X - Y) / 2^yy (X - Y)<=X - Y/\(X - Y) / 2^yy (X - Y)+Y<X+Y:=by
 rcases v7 (X - Y) with⟨h,_⟩|⟨m,hm⟩
 ·exact absurd h h0
 ·have h1:=jw hm;have h3:(X - Y) / 2^yy (X - Y)<=X - Y:=xK _ _;have h2:∀t x:Nat,x=2^t*(2*m+1)->Nat.gcd (x / 2^t) Y=Nat.gcd x Y:=λt=>by
   induction t with
   |zero=>intro x _;rw [yX,Nat.div_one]
   |succ t ih=>
     intro x hx;have e:x / 2=2^t*(2*m+1):=by rw [hx,qN,qE (2^t) 2,qU,xE _ zh]
     rw [qN,qE (2^t) 2,<-xN,ih _ e];exact it (by rw [hx,qN,qE (2^t) 2,qU];exact Nat.mul_mod_right _ _) za
  refine⟨h1,?_,h3,za⟩;rw [h2 _ _ hm,tE a];exact hG
def jq (w0:World)(G:Nat)(e:Ending)(w':World):Prop:=
 ∃(A:zf) (m c:Nat) (L:List Nat),e=.returned (.slice A m c)/\zE w' w'.heap.size 1 A m (zw .u64 L)/\zC 18446744073709551616 L/\dv 18446744073709551616 L=G/\m<=c/\c<=maxLen/\m<=1099511627776/\Below w0.heap.size w0 w'
structure vA (w0 wr:World)(n G S:Nat)(tya tyb:TypeId)(ga gb ca cb s:Nat)(La Lb:List Nat):Prop where
 ra:zy wr tya ga ca s La
 rb:zy wr tyb gb cb s Lb
 ne:ga≠gb
 ha:w0.heap.size<=ga
 hb:w0.heap.size<=gb
 da:zC 18446744073709551616 La
 db:zC 18446744073709551616 Lb
 oa:dv 18446744073709551616 La%2=1
 ob:dv 18446744073709551616 Lb%2=1
 gcd:Nat.gcd (dv 18446744073709551616 La) (dv 18446744073709551616 Lb)=G
 sum:dv 18446744073709551616 La+dv 18446744073709551616 Lb=S
 le:s<=n
 below:Below w0.heap.size w0 wr
theorem tC (w0:World)(i j:TypeId)(ga gb ca cb n G:Nat)(La Lb:List Nat)(w:World)(hI:vA w0 w n G (dv 18446744073709551616 La+dv 18446744073709551616 Lb) i j ga gb ca cb n La Lb)(hn:n<=1099511627776)(hT:zv w0):
  Calls prog 137 #[.slice (some ⟨ga,0,none⟩) n ca,.slice (some ⟨gb,0,none⟩) n cb] w (jq w0 G):=by
 have HT:=zd hT;have HI:=zd hI;clear hI hT;go_enter func137,ntmps137;go_wp2_with fail
 go_loopg [0,1] (dv 18446744073709551616 La+dv 18446744073709551616 Lb+1) (λgg u0 u1 wr=>∃(i j:TypeId) (ga gb ca cb s S:Nat) (La Lb:List Nat),u0=.slice (some ⟨ga,0,none⟩) s ca/\u1=.slice (some ⟨gb,0,none⟩) s cb/\vA w0 wr n G S i j ga gb ca cb s La Lb/\S<gg)
 case atStart=>exact⟨_,_,_,_,_,_,_,_,_,_,rfl,rfl,HI.o,za⟩
 case round=>
  clear HI;obtain⟨i,j,ga,gb,ca,cb,s0,S,B,C,rfl,rfl,⟨ra,rb,U,R,T,D,E,oa,ob,hG,hS,hsn0,hB⟩,hgg⟩:=hrel;have SH:=zd (Yu i j ga gb ca cb s0 B C wr ra rb D E za za);have u:=zd ra;have a:=zd rb;have HB:=zd hB;clear ra rb hB;go_wp2_with fail;refine SH.o.mono ?_;rintro e w2 ⟨s,hs1,Y,rfl,ea,eb,hb⟩;have ra:=(u.o.keep hb).shrink Y;have rb:=(a.o.keep hb).shrink Y;have hB:=ze HB.o hb;have da:=D.take s;have db:=E.take s;obtain⟨La,N⟩:∃L,B.take s=L:=⟨_,rfl⟩;obtain⟨Lb,O⟩:∃L,C.take s=L:=⟨_,rfl⟩;rw [N] at ra da ea;rw [O] at rb db eb;obtain⟨Xa,P⟩:∃X,dv 18446744073709551616 B=X:=⟨_,rfl⟩;obtain⟨Xb,Q⟩:∃X,dv 18446744073709551616 C=X:=⟨_,rfl⟩;rw [P] at ea oa hG hS;rw [Q] at eb ob hG hS;have V:s<=n:=za;have hs:s<=1099511627776:=za;have HG:=zd hG;have A:=zd oa;have M:=zd ob;clear N O P Q SH u a HB hb D E hG;by_cases h1:s=1
  ·subst h1;have k1:=ra.cell 0 za;have k2:=rb.cell 0 za;rw [dY ra.len,ea] at k1;rw [dY rb.len,eb] at k2;have l1:=wh da;have l2:=wh db;rw [ra.len,ea] at l1;rw [rb.len,eb] at l2;have W:=λw'=>dN Xa Xb w' (by simpa using l1) (by simpa using l2);rw [HG.o] at W;have aa:=zd (show Xa<18446744073709551616 by simpa using l1);have HW:=zd W;have ab:=hB.drew;have ad:w2.drew.cell? ⟨ga,0,none⟩=some (.int .u64 (Xa:Int)):=k1;have ae:w2.drew.cell? ⟨gb,0,none⟩=some (.int .u64 (Xb:Int)):=k2;clear W ra rb l1 l2 oa ob hB ea eb hS;go_wp2_with fail
   go_region_held3 (fun w' => w'.cell? ⟨ga,0,none⟩ = some (.int .u64 (Xa : Int)) ∧ w'.cell? ⟨gb,0,none⟩ = some (.int .u64 (Xb : Int)) ∧ Below w0.heap.size w0 w')
    (first|(exact⟨ad,ae,ab⟩)|(go_split_ands;(repeat' apply And.intro);all_goals (first|exact zo|exact ze zo hb|exact zq hb zo|with_reducible exact ym _ zo|with_reducible exact yo _ zo)))
    (first|(go_at_call 125;(with_reducible refine(HW.o _).mono ?_);rintro e w' ⟨rfl,hb⟩))
   rename_i hH
   have HE:zg (∀w':World,Below w0.heap.size w0 (w'.alloc (.cells #[.int .u64 (G:Int)] 141))->jq w0 G (.returned (.slice (some ⟨w'.heap.size,0,none⟩) 1 1)) (w'.alloc (.cells #[.int .u64 (G:Int)] 141))):=λw' h=>by
    have hG1:G<18446744073709551616:=by
     have e:=HG.o;have:=Nat.gcd_le_left Xb (show 0<Xa by have:=A.o;omega);have l:Xa<18446744073709551616:=aa.o;omega
    exact⟨_,_,_,[G],rfl,(aK w' _ G).reads,by intro d hd;simp at hd;omega,by simp [dv],qX _,by unfold maxLen;omega,za,h⟩
   go_wp2;go_ret;exact HE.o _ hH.2.2
  ·have hs1':((s:Int)==1)=false:=beq_eq_false_iff_ne.2 za;have BL:=V8 i j ga gb ca cb s La Lb w2 ra rb da db hs;rw [ea,eb] at BL;have u:=zd ra;have a:=zd rb;have HB:=zd hB;have J:=zd BL;have m:=hB.size;clear ra rb hB BL;go_wp2_with fail;refine J.o.mono ?_;rintro e af ⟨rfl,hb⟩;have ra:=u.o.keep hb;have rb:=a.o.keep hb;have hB:=ze HB.o hb;clear u a HB J hb m;obtain⟨w2,ac⟩:∃x,x=af:=⟨_,rfl⟩;subst ac;have F:=U;have H:=U.symm;have Z:=HG;have K:zg (Nat.gcd Xb Xa=G):=by show _=_;rw [XE];exact HG.o
   by_cases hlt:Xa<Xb
   ·have hd:decide (Xa<Xb)=true:=by simpa using hlt
    have I:Xa<=Xb:=za;have HG:=K;have v:=zd (fL j i gb ga cb ca s Lb La w2 rb ra za db da (by rw [eb,ea];omega) hs);have a:=zd ra;have g:=zd hB;have m:=hB.size;clear rb ra hB;go_wp2_with fail;refine v.o.mono ?_;rintro e w3 ⟨v3,L3,rfl,r3,d3,e3,o3⟩;have ra:=jv o3 a.o za;have hB:=o3.below g.o m za;have y:=HT.o.on hB;rw [eb,ea] at e3;have DR:=cY j gb cb s L3 w3 r3 d3 hs y;rw [e3] at DR;have t:=zd DR;have a:=zd ra;have g:=zd hB;have z:=hB.size;clear r3 ra hB o3 y DR v;go_wp2_with fail;refine t.o.mono ?_;rintro e w4 (⟨h0,rfl,rfl⟩|⟨h0,L4,rfl,r4,d4,e4,o4⟩)
    ·have hG:zg (Xa=G):=by
      have h:=HG.o;rw [show Xb=Xa from by omega,Nat.gcd_self] at h;exact h
     have HE:zg (jq w0 G (.returned (.slice (some ⟨ga,0,none⟩) s ca)) w3):=⟨_,_,_,La,rfl,a.o.reads,da,by rw [ea];exact hG.o,a.o.room.1,a.o.room.2,za,g.o⟩;clear t hG a g;go_wp2;go_ret;exact HE.o
    ·have ra:=jv o4 a.o za;have hB:=o4.below g.o z za;have hD:=dJ h0 I K.o A.o;rw [<-e4] at hD;obtain⟨g1,g2,g3,g4⟩:=hD;have HE:zg (vA w0 w4 n G (dv 18446744073709551616 L4+Xa) j i gb ga cb ca s L4 La):=⟨r4,ra,H,T,R,d4,da,g1,by rw [ea];exact A.o,by rw [ea];exact g2,by rw [ea],V,hB⟩;clear t r4 ra hB o4 e4 a g d4;go_wp2;go_roundg (dv 18446744073709551616 L4+Xa+1)
     case measure=>omega
     case rel=>exact⟨_,_,_,_,_,_,_,_,_,_,rfl,rfl,HE.o,za⟩
   ·have hd:decide (Xa<Xb)=false:=by simpa using hlt
    have I:Xb<=Xa:=za;have v:=zd (fL i j ga gb ca cb s La Lb w2 ra rb za da db (by rw [ea,eb];omega) hs);have a:=zd rb;have g:=zd hB;have m:=hB.size;clear ra rb hB;go_wp2_with fail;refine v.o.mono ?_;rintro e w3 ⟨v3,L3,rfl,r3,d3,e3,o3⟩;have rb:=jv o3 a.o za;have hB:=o3.below g.o m za;have y:=HT.o.on hB;rw [ea,eb] at e3;have DR:=cY i ga ca s L3 w3 r3 d3 hs y;rw [e3] at DR;have t:=zd DR;have a:=zd rb;have g:=zd hB;have z:=hB.size;clear r3 rb hB o3 y DR v;go_wp2_with fail;refine t.o.mono ?_;rintro e w4 (⟨h0,rfl,rfl⟩|⟨h0,L4,rfl,r4,d4,e4,o4⟩)
    ·have hG:zg (Xb=G):=by
      have h:=HG.o;rw [show Xa=Xb from by omega,Nat.gcd_self] at h;exact h
     have HE:zg (jq w0 G (.returned (.slice (some ⟨gb,0,none⟩) s cb)) w3):=⟨_,_,_,Lb,rfl,a.o.reads,db,by rw [eb];exact hG.o,a.o.room.1,a.o.room.2,za,g.o⟩;clear t hG a g;go_wp2;go_ret;exact HE.o
    ·have rb:=jv o4 a.o za;have hB:=o4.below g.o z za;have hD:=dJ h0 I Z.o M.o;rw [<-e4] at hD;obtain⟨g1,g2,g3,g4⟩:=hD;have HE:zg (vA w0 w4 n G (dv 18446744073709551616 L4+Xb) i j ga gb ca cb s L4 Lb):=⟨r4,rb,F,R,T,d4,db,g1,by rw [eb];exact M.o,by rw [eb];exact g2,by rw [eb],V,hB⟩;clear t r4 rb hB o4 e4 a g d4;go_wp2;go_roundg (dv 18446744073709551616 L4+Xb+1)
     case measure=>omega
     case rel=>exact⟨_,_,_,_,_,_,_,_,_,_,rfl,rfl,HE.o,za⟩
def xm (x:Nat):Nat:=x / 2^yy x
theorem kO (x:Nat)(A:zf)(n c:Nat)(w:World)(hA:zp w x A n c)(hn:n<=274877906944)(hT:zv w):
  Calls prog 128 #[.agg #[.slice A n c]] w (yq w (xm x)):=by
 have h:=zn w (λw' hb=>iH x A n c w' (hA.below hb) za (hT.on hb));have g:=zn w (λw' hb=>show Calls _ _ _ _ (yq w' (xm x)) from fV x (yy x) A n c w' (hA.below hb) za);obtain⟨t,ht⟩:∃t,yy x=t:=⟨_,rfl⟩;obtain⟨y,hy⟩:∃t,xm x=t:=⟨_,rfl⟩;rw [ht] at h;rw [ht,hy] at g;rw [hy];clear hA hT ht hy;go_enter func128,ntmps128;go_wp2_with fail;obtain⟨hB,b2,b3,b5⟩:=yb w 56 56 #[.slice A n c] #[.slice none 0 0];generalize hW:(w.alloc (.cells #[.slice A n c] 56)).alloc (.cells #[.slice none 0 0] 56)=W0 at*;have g1:W0.cell? ⟨w.heap.size,0,none⟩=some (.slice A n c):=b2.cell 0;clear hW b2 b5;have j:=hB.drew;have g0:W0.drew.cell? ⟨w.heap.size,0,none⟩=some (.slice A n c):=g1;have m:=b3.drew;clear hB g1 b3
 go_region_held3 (fun w' => Below w.heap.size w w' ∧ w'.cell? ⟨w.heap.size,0,none⟩ = some (.slice A n c))
  (first|(exact⟨j,g0⟩)|(go_split_ands;(repeat' apply And.intro);all_goals (first|exact zo|exact ze zo hb|exact zq hb zo|exact zH _ (by show w.heap.size<=w.heap.size+1;omega) zo|exact zS _ (by show w.heap.size≠w.heap.size+1;omega) zo)))
  (first
    |(go_at_call 129;(with_reducible refine(h.o _ (by first|exact zo|exact yC zo)).mono ?_);rintro e w2 ⟨rfl,hb⟩;have d:=zj hb m)
    |(go_at_call 138;(with_reducible refine(g.o _ (by first|exact zo|exact yC zo)).mono ?_);rintro e w3 ⟨A2,n2,c2,rfl,hw,hb,hf⟩;go_split_ands;have a:=zj hb d;have hc1:=a.cell 0;have hf1:=a.frozen 0;have i:Below w.heap.size w w3:=ze zo hb))
 have hsz:=i.size;have hz2:w.heap.size+1<w2.heap.size:=d.lt;have p4:yg w3 (w.heap.size+1) (.slice none 0 0):=⟨_,a⟩;have r4:=(p4.set_ (.slice A2 n2 c2)).cell;have HG : zg (yq w y (.returned (.agg #[.slice A2 n2 c2])) (w3.setCell ⟨w.heap.size + 1,0,none⟩ (.slice A2 n2 c2))) :=
  ji hw i (by show _<=_;simp) (λad e=>by have:=hf ad e;show ad.block≠_;simp;omega) (λad e=>by have:=hf ad e;omega) _
 clear hw hf a d p4;go_wp2;refine bodyPost_ret (v:=.agg #[.slice A2 n2 c2]) (by simp [results,results128,go_sem,r4]) rfl ?_;exact HG.o
theorem pk {m:Nat}(hY:Y%2=1):∀t x:Nat,x=2^t*(2*m+1)->Nat.gcd (x / 2^t) Y=Nat.gcd x Y:=λt=>by
 induction t with
 |zero=>intro x _;rw [yX,Nat.div_one]
 |succ t ih=>
   intro x hx;have e:x / 2=2^t*(2*m+1):=by rw [hx,qN,qE (2^t) 2,qU,xE _ zh]
   rw [qN,qE (2^t) 2,<-xN,ih _ e];exact it (by rw [hx,qN,qE (2^t) 2,qU];exact Nat.mul_mod_right _ _) za
theorem gn (x:Nat):xm x<=x:=xK _ _
theorem lX (h:x≠0):xm x%2=1:=by
 rcases v7 x with⟨e,_⟩|⟨m,hm⟩
 ·exact absurd e h
 ·exact jw hm
theorem sj (hY:Y%2=1):Nat.gcd (xm x) Y=Nat.gcd x Y:=by
 rcases v7 x with⟨e,_⟩|⟨m,hm⟩
 ·rw [e];show Nat.gcd (0 / _) Y=_;rw [Nat.zero_div]
 ·exact pk hY _ _ hm
theorem bQ (h0:X%Y≠0)(hG:Nat.gcd X Y=G)(hY:Y%2=1):xm (X%Y)%2=1/\Nat.gcd (xm (X%Y)) Y=G/\xm (X%Y)<=X%Y:=by
 refine⟨lX h0,?_,gn _⟩;rw [sj hY,<-hG,XE X Y,Nat.gcd_rec Y X]
structure rZ (w wr:World)(p G S xa xb:Nat)(Aa Ab:zf)(na ca nb cb:Nat):Prop where
 ka:yg wr p (.slice Aa na ca)
 kb:yg wr (p+1) (.slice Ab nb cb)
 kr:yg wr (p+1+1) (.slice none 0 0)
 wa:zp wr xa Aa na ca
 wb:zp wr xb Ab nb cb
 oa:xa%2=1
 ob:xb%2=1
 gcd:Nat.gcd xa xb=G
 sum:xa+xb=S
 la:na<=1073741824
 lb:nb<=1073741824
 below:Below w.heap.size w wr
theorem qp (x y:Nat)(A D:zf)(n m c d:Nat)(w:World)(hA:zp w x A n c)(hD:zp w y D m d)(hn:n<=1073741824)(hm:m<=1073741824)(hx:x%2=1)(hy:y%2=1)(hT:zv w):
  Calls prog 127 #[.agg #[.slice A n c],.agg #[.slice D m d]] w (sY w (Nat.gcd x y)):=by
 have HT:=zd hT;have HA:=zd hA;have HD:=zd hD;obtain⟨G,hG⟩:∃g,Nat.gcd x y=g:=⟨_,rfl⟩;rw [hG];have Z:=zd hG;clear hT hA hD hG;go_enter func127,ntmps127;go_wp2_with fail;obtain⟨b1,b2,b3,b4,b5⟩:=yc w 56 56 56 #[.slice A n c] #[.slice D m d] #[.slice none 0 0];generalize hW:((w.alloc (.cells #[.slice A n c] 56)).alloc (.cells #[.slice D m d] 56)).alloc (.cells #[.slice none 0 0] 56)=W0 at*;obtain⟨p,hp⟩:∃p,w.heap.size=p:=⟨_,rfl⟩;have hpw:w.heap.size<=p:=za;have H0:zg (rZ w W0 p G (x+y) x y A D n c m d):=⟨by rw [<-hp];exact b2.one,by rw [<-hp];exact b3.one,by rw [<-hp];exact b4.one,HA.o.below b1,HD.o.below b1,hx,hy,Z.o,rfl,hn,hm,b1⟩;rw [hp];clear hp hW b1 b2 b3 b4 b5 HA HD hx hy hn hm Z
 go_loopg [5] (x+y+1) (λgg _ wr=>∃(S xa xb:Nat) (Aa Ab:zf) (na ca nb cb:Nat),rZ w wr p G S xa xb Aa Ab na ca nb cb/\S<gg)
 case atStart=>exact⟨_,_,_,_,_,_,_,_,_,H0.o,za⟩
 case round=>
  clear H0;obtain⟨S,xa,xb,Aa,Ab,na,ca,nb,cb,⟨k1,k2,k3,wa,wb,oa,ob,hG,hS,X,Y,a⟩,hgg⟩:=hrel;have HG:=zd hG;have aa:=HG;have ab:zg (Nat.gcd xb xa=G):=by show _=_;rw [XE];exact hG
  have J:=zd oa;have M:=zd ob;have LA:=zd (λw'=>wN xa Aa na ca w');have LB:=zd (λw'=>wN xb Ab nb cb w');have C:=zd k1;have u:=zd k2;have j:=zd k3;have i:=zd a;have N:=zd wa;have z:=zd wb;have c1:wr.drew.cell? ⟨p,0,none⟩=some (.slice Aa na ca):=k1.cell;have c2:wr.drew.cell? ⟨p+1,0,none⟩=some (.slice Ab nb cb):=k2.cell;have Q:Below wr.heap.size wr wr.drew:=(qY _ wr).drew;clear k1 k2 k3 wa wb a oa ob hG;go_wp2_with fail
  go_region_held3 (fun w' => w'.cell? ⟨p,0,none⟩ = some (.slice Aa na ca) ∧ w'.cell? ⟨p + 1,0,none⟩ = some (.slice Ab nb cb) ∧ Below wr.heap.size wr w')
   (first|(exact⟨c1,c2,Q⟩)|(go_split_ands;(repeat' apply And.intro);all_goals (first|exact zo|exact zq B zo|exact ze zo B)))
   (first|(go_at_call 86;(first|(with_reducible refine(LA.o _).mono ?_)|(with_reducible refine(LB.o _).mono ?_));rintro e w2 ⟨rfl,B⟩))
  rename_i hH
  obtain⟨c1,c2,F⟩:=hH;by_cases hl:na=nb
  ·subst hl;have V:((na:Int) !=(na:Int))=false:=zD;have WA:=zn wr (λw' h=>kK xa Aa na ca w' (N.o.below h) za);have WB:=zn wr (λw' h=>kK xb Ab na cb w' (z.o.below h) za);have ah:0<na:=by
    rcases QS na with e|e
    ·have h:=N.o.len;rw [e] at h;have h2:=wV (b:=18446744073709551616) zh xa;rw [qM h] at h2;have:=J.o;simp [dv] at h2;omega
    ·exact e
   have R:=F.drew;have c1:w2.drew.cell? ⟨p,0,none⟩=some (.slice Aa na ca):=c1;have c2:w2.drew.cell? ⟨p+1,0,none⟩=some (.slice Ab na cb):=c2;have c1r:=C.o.cell;have c2r:=u.o.cell;have ao:=zd (HT.o.on i.o);have am:=zd j.o;have f3:=j.o.frozen;have lt3:=j.o.lt;have al:=zd (fun(w5:World) (ga gb O P:Nat) (ra:zy w5 141 ga O na (dg 18446744073709551616 xa)) (rb:zy w5 141 gb P na (dg 18446744073709551616 xb)) (V:ga≠gb) (h1:wr.heap.size<=ga) (h2:wr.heap.size<=gb) (hb:Below wr.heap.size wr w5)=>
    tC wr 141 141 ga gb O P na G (dg 18446744073709551616 xa) (dg 18446744073709551616 xb) w5 ⟨ra,rb,V,h1,h2,vp zh _,vp zh _,by rw [wV zh];exact J.o,by rw [wV zh];exact M.o,by rw [wV zh,wV zh];exact HG.o,rfl,qX _,hb⟩ za ao.o)
   have an:=zd (fun(w6:World) (A6:zf) (m6 c6:Nat) (L6:List Nat) (h:zE w6 w6.heap.size 1 A6 m6 (zw .u64 L6)) (hd:zC 18446744073709551616 L6) (hv:dv 18446744073709551616 L6=G) (h1:m6<=c6) (h2:c6<=maxLen) (h3:m6<=1099511627776)=>
    show Calls prog 89 #[.slice A6 m6 c6] w6 (yq w6 G) from hv▸vr A6 m6 c6 L6 w6 h hd h1 (by unfold maxLen at h2;omega) h3)
   clear F B;go_wp2_with fail
   go_region_held3 (fun w' => w'.cell? ⟨p,0,none⟩ = some (.slice Aa na ca) ∧ w'.cell? ⟨p + 1,0,none⟩ = some (.slice Ab na cb))
    (first|(exact⟨c1,c2⟩)|(go_split_ands;(repeat' apply And.intro);all_goals (first|exact zo|exact zq B zo|exact ze zo B|exact zH _ (by show wr.heap.size<=p+1+1;omega) zo|exact zS _ (by show p≠p+1+1;omega) zo|exact zS _ (by show p+1≠p+1+1;omega) zo)))
    (first
      |(go_at_call 90;(with_reducible refine(WA.o _ R).mono ?_);rintro e w4 ⟨v4,rfl,a2,B⟩;have ae:=ze R B;obtain⟨ga,O,rfl,aw,ra⟩:=zy.of_own a2 ah)
      |(go_at_call 90;(with_reducible refine(WB.o _ ae).mono ?_);rintro e w5 ⟨v5,rfl,a3,B⟩;have au:=ze ae B;obtain⟨gb,P,rfl,hgb,rb⟩:=zy.of_own a3 ah;have ak:=ra.keep B)
      |(go_at_call 137;(with_reducible refine(al.o w5 ga gb O P ak rb (by have h1:=ra.lt;omega) (qC R.size aw) (by have h1:=ra.lt;have h2:=R.size;omega) au).mono ?_);rintro e w6 ⟨A6,m6,c6,L6,rfl,H,ag,ai,ap,aq,ar,B⟩;have af:=B)
      |(go_at_call 89;(with_reducible refine(an.o w6 A6 m6 c6 L6 H ag ai ap aq ar).mono ?_);rintro e w7 ⟨A7,n7,c7,rfl,aj,B,av⟩;have U:=ze af B;have k7:=am.o.keep U;have f7:=k7.frozen;have e7:=k7.cell))
   have r7:=(k7.set_ (.slice A7 n7 c7)).cell;have HE:zg (sY w G (.returned (.agg #[.slice A7 n7 c7])) (w7.setCell ⟨p+1+1,0,none⟩ (.slice A7 n7 c7))):=⟨_,_,_,rfl,yz aj k7 _,(ze i.o U).setCell (p:=⟨p+1+1,0,none⟩) (by show w.heap.size<=p+1+1;omega) _⟩;clear k7 U B aj av af H ag ai ak rb ra;go_wp2;refine bodyPost_ret (v:=.agg #[.slice A7 n7 c7]) (by simp [results,results127,go_sem,r7]) rfl ?_;exact HE.o
  ·have V:((na:Int) !=(nb:Int))=true:=by simp;omega
   have Q:=F.drew;have ac:w2.drew.cell? ⟨p,0,none⟩=some (.slice Aa na ca):=c1;have ad:w2.drew.cell? ⟨p+1,0,none⟩=some (.slice Ab nb cb):=c2;clear F c1 c2;go_wp2_with fail
   go_region_held3 (fun w' => w'.cell? ⟨p,0,none⟩ = some (.slice Aa na ca) ∧ w'.cell? ⟨p + 1,0,none⟩ = some (.slice Ab nb cb) ∧ Below wr.heap.size wr w')
    (first|(exact⟨ac,ad,Q⟩)|(go_split_ands;(repeat' apply And.intro);all_goals (first|exact zo|exact zq B zo|exact ze zo B)))
    (first|(go_at_call 86;(first|(with_reducible refine(LA.o _).mono ?_)|(with_reducible refine(LB.o _).mono ?_));rintro e w3 ⟨rfl,B⟩))
   rename_i hH
   obtain⟨c1,c2,F⟩:=hH;have k1:=C.o.keep F;have k2:=u.o.keep F;have k3:=j.o.keep F;have a:=ze i.o F;have wa:=N.o.below F;have wb:=z.o.below F;clear B ac ad Q C u j i N z LA LB F;by_cases hlt:na<nb
   ·have f1:=k1.frozen;have f2:=k2.frozen;have q1:=k1.set_ (.slice Ab nb cb);have q2:=(k2.far (p:=⟨p,0,none⟩) (by show p+1≠p;omega) (.slice Ab nb cb));have r1:=q1.far (p:=⟨p+1,0,none⟩) (by show p≠p+1;omega) (.slice Aa na ca);have r2:=q2.set_ (.slice Aa na ca);have r3:=(k3.far (p:=⟨p,0,none⟩) (by show p+1+1≠p;omega) (.slice Ab nb cb)).far (p:=⟨p+1,0,none⟩) (by show p+1+1≠p+1;omega) (.slice Aa na ca);have ra:=yz (yz wa k1 (.slice Ab nb cb)) q2 (.slice Aa na ca);have rb:=yz (yz wb k1 (.slice Ab nb cb)) q2 (.slice Aa na ca);have rB:=(a.setCell (p:=⟨p,0,none⟩) (by show w.heap.size<=p;omega) (.slice Ab nb cb)).setCell (p:=⟨p+1,0,none⟩) (by show w.heap.size<=p+1;omega) (.slice Aa na ca);have e1:=r1.cell;have e2:=r2.cell;have f3:=q2.frozen;have e3:=q2.cell;clear k1 k2 k3 wa wb a q1 q2;go_wp2_with fail;clear e1 e2 e3 f1 f2 f3 c1 c2;generalize (w3.setCell ⟨p,0,none⟩ (.slice Ab nb cb)).setCell ⟨p+1,0,none⟩ (.slice Aa na ca)=W at*;have k1:=r1;have k2:=r2;have k3:=r3;have wa:=ra;have wb:=rb;have a:=rB;clear r1 r2 r3 ra rb rB;have az:xa<xb:=kj (b:=18446744073709551616) zh (by rw [wb.len,wa.len];omega);have T:xa≠0:=by have:=J.o;omega
    have MD:=zd (ov.mod xb xa Ab Aa nb na cb ca W wb wa Y X T);have z:=zd wa;have C:=zd k1;have u:=zd k2;have j:=zd k3;have i:=zd a;have L:=wa.len;clear wa wb k1 k2 k3 a;refine MD.o.mono ?_;rintro e w3 ⟨A3,n3,c3,rfl,t,hb⟩;have k1:=C.o.keep hb;have k2:=u.o.keep hb;have k3:=j.o.keep hb;have a:=ze i.o hb;have wa:=z.o.below hb;obtain⟨d1,d2,d3⟩:=zG w3 56 #[.slice A3 n3 c3];have k1:=k1.keep d1;have k2:=k2.keep d1;have k3:=k3.keep d1;have a:=ze a d1;have wa:=wa.below d1;have t:=t.below d1;have k5:=d2.one;have g5:=k5.cell;have f1:=k1.frozen;have e1:=k1.cell;have ax:=k1.lt;have ay:=k3.lt;clear d1 d2 d3 hb C u j i z MD;by_cases hz:xb%xa=0
    ·have hG:zg (xa=G):=by
      have h:=ab.o;rw [XE,Nat.gcd_rec,hz,XN] at h;exact h
     have ZY:=zd (me hz t);have u:=zd k2;have j:=zd k3;have i:=zd a;have z:=zd wa;clear k1 k2 k3 a wa t e1 f1;go_wp2_with fail;refine ZY.o.mono ?_;rintro e w4 ⟨rfl,hb⟩;have k2:=u.o.keep hb;have k3:=j.o.keep hb;have a:=ze i.o hb;have wa:=z.o.below hb;have e2:=k2.cell;have e3:=k3.cell;have f3:=k3.frozen;have r4:=(k3.set_ (.slice Aa na ca)).cell;have HE:zg (sY w G (.returned (.agg #[.slice Aa na ca])) (w4.setCell ⟨p+1+1,0,none⟩ (.slice Aa na ca))):=⟨_,_,_,rfl,by rw [<-hG.o];exact yz wa k3 _,a.setCell (p:=⟨p+1+1,0,none⟩) (by show w.heap.size<=p+1+1;omega) _⟩;clear hG u j i z k2 k3 wa a hb;go_wp2;refine bodyPost_ret (v:=.agg #[.slice Aa na ca]) (by simp [results,results127,go_sem,r4]) rfl ?_;exact HE.o
    ·have ZN:=zd (oL hz t);have K:=zd t;have C:=zd k1;have u:=zd k2;have j:=zd k3;have i:=zd a;have z:=zd wa;clear k1 k2 k3 a wa t e1 f1;go_wp2_with fail;refine ZN.o.mono ?_;rintro e w4 ⟨rfl,hb⟩;have g5:=zq hb g5;have t:=K.o.below hb;have a:=ze i.o hb;have a4:xb%xa<xa:=QI _ za;have a0:n3<=na:=by
      rw [<-t.len,<-L];exact pT zh za
     have OP:=zd (kO _ A3 n3 c3 w4 t za (HT.o.on a));have I:=zd hb;clear t a K hb;go_wp2_with fail;refine OP.o.mono ?_;rintro e w5 ⟨A6,n6,c6,rfl,H,hb,_⟩;have E:=ze I.o hb;have k1:=C.o.keep E;have k2:=u.o.keep E;have k3:=j.o.keep E;have a:=ze i.o E;have wa:=z.o.below E;have hs:=bQ hz ab.o J.o;obtain⟨g1,g2,g3⟩:=hs;have a1:n6<=na:=by
      rw [<-H.len,<-L];exact pT zh za
     have HE : zg (rZ w (w5.setCell ⟨p,0,none⟩ (.slice A6 n6 c6)) p G (xm (xb % xa) + xa) (xm (xb % xa)) xa A6 Aa n6 c6 na ca) :=
      ⟨k1.set_ _,k2.far (p:=⟨p,0,none⟩) (by show p+1≠p;omega) _,k3.far (p:=⟨p,0,none⟩) (by show p+1+1≠p;omega) _,yz H k1 _,yz wa k1 _,g1,J.o,g2,rfl,za,X,a.setCell (p:=⟨p,0,none⟩) (by show w.heap.size<=p;omega) _⟩
     have e1:=k1.cell;have f1:=k1.frozen;clear k1 k2 k3 a wa H E I hb C u j i z g5;go_wp2;go_roundg (xm (xb%xa)+xa+1)
     case measure=>omega
     case rel=>exact⟨_,_,_,_,_,_,_,_,_,HE.o,za⟩
   ·clear c1 c2;have c1:=k1.cell;have c2:=k2.cell;go_wp2_with fail;obtain⟨W,hW⟩:∃x,x=w3:=⟨_,rfl⟩;subst hW;have az:xb<xa:=kj (b:=18446744073709551616) zh (by rw [wa.len,wb.len];omega);have T:xb≠0:=by have:=M.o;omega
    have MD:=zd (ov.mod xa xb Aa Ab na nb ca cb W wa wb X Y T);have z:=zd wb;have C:=zd k1;have u:=zd k2;have j:=zd k3;have i:=zd a;have L:=wb.len;clear wa wb k1 k2 k3 a;refine MD.o.mono ?_;rintro e w3 ⟨A3,n3,c3,rfl,t,hb⟩;have k1:=C.o.keep hb;have k2:=u.o.keep hb;have k3:=j.o.keep hb;have a:=ze i.o hb;have wb:=z.o.below hb;obtain⟨d1,d2,d3⟩:=zG w3 56 #[.slice A3 n3 c3];have k1:=k1.keep d1;have k2:=k2.keep d1;have k3:=k3.keep d1;have a:=ze a d1;have wb:=wb.below d1;have t:=t.below d1;have k5:=d2.one;have g5:=k5.cell;have f1:=k1.frozen;have e1:=k1.cell;have ax:=k1.lt;have ay:=k3.lt;clear d1 d2 d3 hb C u j i z MD;by_cases hz:xa%xb=0
    ·have hG:zg (xb=G):=by
      have h:=aa.o;rw [XE,Nat.gcd_rec,hz,XN] at h;exact h
     have ZY:=zd (me hz t);have u:=zd k2;have j:=zd k3;have i:=zd a;have z:=zd wb;clear k1 k2 k3 a wb t e1 f1;go_wp2_with fail;refine ZY.o.mono ?_;rintro e w4 ⟨rfl,hb⟩;have k2:=u.o.keep hb;have k3:=j.o.keep hb;have a:=ze i.o hb;have wb:=z.o.below hb;have e2:=k2.cell;have e3:=k3.cell;have f3:=k3.frozen;have r4:=(k3.set_ (.slice Ab nb cb)).cell;have HE:zg (sY w G (.returned (.agg #[.slice Ab nb cb])) (w4.setCell ⟨p+1+1,0,none⟩ (.slice Ab nb cb))):=⟨_,_,_,rfl,by rw [<-hG.o];exact yz wb k3 _,a.setCell (p:=⟨p+1+1,0,none⟩) (by show w.heap.size<=p+1+1;omega) _⟩;clear hG u j i z k2 k3 wb a hb;go_wp2;refine bodyPost_ret (v:=.agg #[.slice Ab nb cb]) (by simp [results,results127,go_sem,r4]) rfl ?_;exact HE.o
    ·have ZN:=zd (oL hz t);have K:=zd t;have C:=zd k1;have u:=zd k2;have j:=zd k3;have i:=zd a;have z:=zd wb;clear k1 k2 k3 a wb t e1 f1;go_wp2_with fail;refine ZN.o.mono ?_;rintro e w4 ⟨rfl,hb⟩;have g5:=zq hb g5;have t:=K.o.below hb;have a:=ze i.o hb;have a4:xa%xb<xb:=QI _ za;have a0:n3<=nb:=by
      rw [<-t.len,<-L];exact pT zh za
     have OP:=zd (kO _ A3 n3 c3 w4 t za (HT.o.on a));have I:=zd hb;clear t a K hb;go_wp2_with fail;refine OP.o.mono ?_;rintro e w5 ⟨A6,n6,c6,rfl,H,hb,_⟩;have E:=ze I.o hb;have k1:=C.o.keep E;have k2:=u.o.keep E;have k3:=j.o.keep E;have a:=ze i.o E;have wb:=z.o.below E;have hs:=bQ hz aa.o M.o;obtain⟨g1,g2,g3⟩:=hs;have a1:n6<=nb:=by
      rw [<-H.len,<-L];exact pT zh za
     have HE : zg (rZ w (w5.setCell ⟨p,0,none⟩ (.slice A6 n6 c6)) p G (xm (xa % xb) + xb) (xm (xa % xb)) xb A6 Ab n6 c6 nb cb) :=
      ⟨k1.set_ _,k2.far (p:=⟨p,0,none⟩) (by show p+1≠p;omega) _,k3.far (p:=⟨p,0,none⟩) (by show p+1+1≠p;omega) _,yz H k1 _,yz wb k1 _,g1,M.o,g2,rfl,za,Y,a.setCell (p:=⟨p,0,none⟩) (by show w.heap.size<=p;omega) _⟩
     have e1:=k1.cell;have f1:=k1.frozen;clear k1 k2 k3 a wb H E I hb C u j i z g5;go_wp2;go_roundg (xm (xa%xb)+xb+1)
     case measure=>omega
     case rel=>exact⟨_,_,_,_,_,_,_,_,_,HE.o,za⟩
theorem WM (x k:Nat)(A:zf)(n c:Nat)(w:World)(hA:zp w x A n c)(hn:n<=137438953472)(hk:k<=1099511627776):
  Calls prog 126 #[.agg #[.slice A n c],.int .i64 k] w (yq w (2^k*x)):=by
 obtain⟨i0,L,Q,R,S⟩:=info_parts rN;have hsz:Sz (n+1) (2^(k%64)*x):=Sz.shl' (M:=1) (show Sz n x by have h:=yx (b:=18446744073709551616) zh x;rw [hA.len] at h;exact h) za;have HS:=zn w (λw' hb=>Zj x (k%64) A n c w' (hA.below hb) za za);have HV:zg (18446744073709551616^(k / 64)*(2^(k%64)*x)=2^k*x):=by show _=_;rw [<-qU,qs]
 obtain⟨q,hq⟩:∃q,k / 64=q:=⟨_,rfl⟩;obtain⟨r,hr⟩:∃r,k%64=r:=⟨_,rfl⟩;have ak:(k:Int) / 64=(q:Int):=za;have al:(k:Int)%64=(r:Int):=za;have hqt:(k:Int).tdiv 64=(q:Int):=by rw [Int.tdiv_eq_ediv_of_nonneg za];exact ak
 have hrt:(k:Int).tmod 64=(r:Int):=by rw [yG za];exact al
 have hqk:q<=17179869184:=za;have hqw:IntKind.i64.wrap (q:Int)=(q:Int):=QD _ za;have hrw:IntKind.i64.wrap (r:Int)=(r:Int):=QD _ za;rw [hq,hr] at HV;rw [hr] at HS hsz;obtain⟨y,hy⟩:∃y,2^r*x=y:=⟨_,rfl⟩;obtain⟨X,hX⟩:∃y,2^k*x=y:=⟨_,rfl⟩;rw [hy] at HS hsz;rw [hy,hX] at HV;rw [hX];have ag:=zd hsz;have HW:=zd (λw' A' n' c' (h:zp w' y A' n' c') (hb:n'<=1099511627776)=>kK y A' n' c' w' h hb);obtain⟨Z,hZ⟩:∃Z,madeCells (Value.cells (.int .u64 0)) q=Z:=⟨_,rfl⟩;have hmk:∀W:World,(Instr.makeSlice 54 (.int .i64 (q:Int)) (.int .i64 (q:Int))).run prog W=.ok (.slice (some ⟨W.heap.size,0,none⟩) q q) (W.alloc (.cells Z 141)):=λW=>by
  have h:=uv _ _ i0 _ underlying54 L Q .i64 .i64 q q (qX _) (by rw [S];omega) za W;rw [R,xO,hZ] at h;exact h
 have HM:zg (∀W:World,zy (W.alloc (.cells Z 141)) 141 W.heap.size q q (List.replicate q 0)):=λW=>by
  have h:=zy.made W 141 q (by unfold maxLen;omega);rw [hZ] at h;exact h
 clear hZ hA hq hr hy hX hsz;go_enter func126,ntmps126;go_wp2_with fail;obtain⟨b1,b2,b3,b5⟩:=yb w 56 56 #[.slice A n c] #[.slice none 0 0];generalize hW:(w.alloc (.cells #[.slice A n c] 56)).alloc (.cells #[.slice none 0 0] 56)=W0 at*;clear hW b2;refine(HS.o _ b1).mono ?_;rintro e w1 ⟨A1,n1,c1,rfl,O,hb,ab⟩;have hB:=ze b1 hb;have B:=zj hb b3;clear hb b1 b3 b5 ab HS;obtain⟨d1,d2,d5⟩:=zG w1 56 #[.slice A1 n1 c1];have hB:=ze hB d1;have B:=zj d1 B;have P:=O.below d1;have g5:(w1.alloc (.cells #[.slice A1 n1 c1] 56)).cell? ⟨w1.heap.size,0,none⟩=some (.slice A1 n1 c1):=d2.cell 0;have hn1:n1<=n+1:=by have h:=O.len;rw [<-h];exact pR zh _ _ ag.o
 have hl4:=B.lt;clear d1 d2 d5 O;go_wp2_with fail;generalize hW:w1.alloc (.cells #[.slice A1 n1 c1] 56)=W at*;obtain⟨z,hz⟩:∃z,w1.heap.size=z:=⟨_,rfl⟩;rw [hz] at g5⊢;clear hW hz;have hbw:=hB.size;have G0:W.drew.cell? ⟨z,0,none⟩=some (.slice A1 n1 c1):=g5;have G1:(W.alloc (.cells Z 141)).cell? ⟨z,0,none⟩=some (.slice A1 n1 c1):=yo _ g5;have G2:(W.alloc (.cells Z 141)).drew.cell? ⟨z,0,none⟩=some (.slice A1 n1 c1):=G1;have V:=zd P;have ae:zg ((dg 18446744073709551616 y).length=n1):=P.len;have U:=zd (wV (b:=18446744073709551616) zh y);have T:=zd (vp (b:=18446744073709551616) zh y);obtain⟨D,hD⟩:∃D,dg 18446744073709551616 y=D:=⟨_,rfl⟩;rw [hD] at HW ae U T;clear P hD;have aj:=HW.o W A1 n1 c1 V.o za;have WD:∀w',zg (Below W.heap.size W w')->Calls prog 90 #[.agg #[.slice A1 n1 c1]] w' (lU w' n1 (zw .u64 D)):=λw' h=>HW.o w' A1 n1 c1 (V.o.below h.o) za;have ah:=zd WD;have I:zg (Below W.heap.size W W.drew):=(qY _ W).drew;have J:zg (Below W.heap.size W (W.alloc (.cells Z 141)).drew):=((qY _ W).alloc (qX _) _).drew;have ai:zg (zy (W.alloc (.cells Z 141)).drew 141 W.heap.size q q (List.replicate q 0)):=(HM.o W).drew;have af:=zd (fun(w':World) (A':zf) (c':Nat) (h:zE w' w'.heap.size 1 A' (q+n1) (zw .u64 (List.replicate q 0++D))) (h1:q+n1<=c') (h2:c'<=9223372036854775807)=>
  show Calls prog 89 #[.slice A' (q+n1:Nat) c'] w' (yq w' X) from by
   have h:=vr A' (q+n1) c' (List.replicate q 0++D) w' h ((zC.zeros zh q).append T.o) h1 h2 za;rw [vJ,mH,QE,U.o,xG,HV.o] at h;exact h)
 clear WD aj
 go_region_law (first
  |(refine fF _ rfl (.tmp 16) (.tmp 18) 54 rfl W.heap.size 141 i0 (.int .u64 0) 1 8 underlying54 L Q R S rfl zh (.slice (some ⟨W.heap.size,0,none⟩) q q) q (zw .u64 (List.replicate q 0)) rfl ((ai.o.keep u).own (qX _)) w3.heap.size A3 n1 c3 (zw .u64 D) rfl N (js _ _) (by unfold maxLen;omega) za d.size ?_;intro v4 w4 i a E;have t:Below W.heap.size W w4:=d.grown a d.size (λg e=>by cases e;exact qX _);obtain⟨A4,c4,rfl,F,G,m⟩:=zE.of_grown_own i;rw [<-kR] at m)
  |(refine fF _ rfl (.tmp 16) (.tmp 18) 54 rfl W.heap.size 141 i0 (.int .u64 0) 1 8 underlying54 L Q R S rfl zh (.slice (some ⟨w3.heap.size,0,none⟩) q q) q (zw .u64 (List.replicate q 0)) rfl ((HM.o w3).own d.size) w3.heap.size A3 n1 c3 (zw .u64 D) rfl (N.alloc (qX _) _) (js _ _) (by unfold maxLen;omega) za (by have:=d.size;simp;omega) ?_;intro v4 w4 i a E;have t:Below W.heap.size W w4:=(ym _ d).grown a (by have:=d.size;simp;omega) (λg e=>by cases e;exact d.size);obtain⟨A4,c4,rfl,F,G,m⟩:=zE.of_grown_own i;rw [<-kR] at m)
  |(go_simp;go_at_call 90;refine(ah.o _ (by first|exact I|exact J)).mono ?_;rintro e w3 ⟨v3,rfl,j,u⟩;obtain⟨A3,c3,rfl,hc3a,hc3b,N⟩:=zE.of_grown_own j;have d:Below W.heap.size W w3:=(by first|exact I.o.trans (u.mono I.o.size)|exact J.o.trans (u.mono J.o.size)))
  |(go_simp;go_at_call 89;refine(af.o w4 A4 c4 m F (by unfold maxLen at G;omega)).mono ?_;rintro e w5 ⟨A5,n5,c5,rfl,ac,aa,K⟩;have H:Below W.heap.size W w5:=ze t aa;have C:=zj H B;have hc1:=C.cell 0;have ab:=C.frozen 0))
 all_goals
  have hs5:=t.size
  have p4:yg w5 (w.heap.size+1) (.slice none 0 0):=⟨_,C⟩
  have r4:=(p4.set_ (.slice A5 n5 c5)).cell
  have Y:=ze hB H
  have HG : zg (yq w X (.returned (.agg #[.slice A5 n5 c5])) (w5.setCell ⟨w.heap.size + 1,0,none⟩ (.slice A5 n5 c5))) :=
   ji ac Y (by show _<=_;simp) (λad e=>by have:=K ad e;show ad.block≠_;simp;omega) (λad e=>by have:=K ad e;omega) _
  clear ac K C p4 Y H aa t m i a E N j u d
  go_wp2
  refine bodyPost_ret (v:=.agg #[.slice A5 n5 c5]) (by simp [results,results126,go_sem,r4]) rfl ?_
  exact HG.o
theorem gM {a b:Nat}(ha:a%2=1):∀k,Nat.gcd (2^k*b) a=Nat.gcd b a
 |0=>by rw [yX,XU]
 |k+1=>by
   have h:=it (p:=2^(k+1)*b) (q:=a) (by rw [qN,qE (2^k) 2,qU];exact Nat.mul_mod_right _ _) za;rw [<-h,qN,qE (2^k) 2,qU,xE _ zh];exact gM ha k
theorem bP (h:x≠0):2^yy x*xm x=x:=by
 rcases v7 x with⟨e,_⟩|⟨m,hm⟩
 ·exact absurd e h
 ·unfold xm;exact XW ⟨2*m+1,hm⟩
theorem tF {y:Nat}(hx:x≠0)(hy:y≠0):2^min (yy x) (yy y)*Nat.gcd (xm x) (xm y)=Nat.gcd x y:=by
 have ex:=bP hx;have ey:=bP hy;have ox:=lX hx;have oy:=lX hy;obtain⟨s,hs⟩:∃s,yy x=s:=⟨_,rfl⟩;obtain⟨t,ht⟩:∃s,yy y=s:=⟨_,rfl⟩;rw [hs] at ex⊢;rw [ht] at ey⊢;rcases Nat.le_total s t with h|h
 ·obtain⟨d,rfl⟩:∃d,t=s+d:=⟨t - s,za⟩;rw [QO h]
  conv=>rhs;rw [<-ex,<-ey,xU,qU,Nat.gcd_mul_left,XE,gM ox,XE]
 ·obtain⟨d,rfl⟩:∃d,s=t+d:=⟨s - t,za⟩;rw [Nat.min_eq_right h]
  conv=>rhs;rw [<-ex,<-ey,xU,qU,Nat.gcd_mul_left,gM oy]
theorem cG {n:Nat}(h:(dg 18446744073709551616 x).length=n):yy x<=64*n:=by
 rcases v7 x with⟨_,e⟩|⟨m,hm⟩
 ·omega
 ·have h1:=yx (b:=18446744073709551616) zh x;rw [h,show(18446744073709551616:Nat)=2^64 from rfl,<-YG] at h1;have h2:2^yy x<=x:=by
   conv=>rhs;rw [hm]
   exact Nat.le_mul_of_pos_right _ za
  rcases xC (64*n) (yy x) with h3|h3
  ·have:=qL (n:=2) zh (yY h3);omega
  ·exact h3
theorem tD (x y:Nat)(A D:zf)(n m c d:Nat)(w:World)(hA:zp w x A n c)(hD:zp w y D m d)(hn:n<=1073741824)(hm:m<=1073741824)(hT:zv w):
  Calls prog 114 #[.agg #[.slice A n c],.agg #[.slice D m d]] w (sY w (Nat.gcd x y)):=by
 obtain⟨G,hG⟩:∃g,Nat.gcd x y=g:=⟨_,rfl⟩;rw [hG];have HG:=zd hG;clear hG;have F:=zd hA.len;have H:=zd hD.len;obtain⟨ux,bx,HU,hu⟩:∃(ux:Nat) (bx:Bool),zg (∀w',Below w.heap.size w w'->Calls prog 117 #[.agg #[.slice A n c]] w' λe ac=>e=.returned (.tuple #[.int .u64 ux,.bool bx])/\Below w'.heap.size w' ac)/\((n<=1/\bx=true/\ux=wd x 0)\/(1<n/\bx=false)):=by
  by_cases h:n<=1
  ·exact⟨_,_,λw' hb=>lO x A n c w' (hA.below hb) h,.inl ⟨h,rfl,rfl⟩⟩
  ·exact⟨0,_,λw' hb=>lM A n c w' za,.inr ⟨za,rfl⟩⟩
 obtain⟨uy,bY,HV,hv⟩:∃(ux:Nat) (bx:Bool),zg (∀w',Below w.heap.size w w'->Calls prog 117 #[.agg #[.slice D m d]] w' λe ac=>e=.returned (.tuple #[.int .u64 ux,.bool bx])/\Below w'.heap.size w' ac)/\((m<=1/\bx=true/\ux=wd y 0)\/(1<m/\bx=false)):=by
  by_cases h:m<=1
  ·exact⟨_,_,λw' hb=>lO y D m d w' (hD.below hb) h,.inl ⟨h,rfl,rfl⟩⟩
  ·exact⟨0,_,λw' hb=>lM D m d w' za,.inr ⟨za,rfl⟩⟩
 go_enter func114,ntmps114;go_wp2_with fail;obtain⟨b1,b2,b3,b4,b5⟩:=yc w 56 56 56 #[.slice A n c] #[.slice D m d] #[.slice none 0 0];generalize hW:((w.alloc (.cells #[.slice A n c] 56)).alloc (.cells #[.slice D m d] 56)).alloc (.cells #[.slice none 0 0] 56)=W0 at*;obtain⟨p,hp⟩:∃p,w.heap.size=p:=⟨_,rfl⟩;have hpw:w.heap.size<=p:=za;have g1:W0.cell? ⟨p,0,none⟩=some (.slice A n c):=by rw [<-hp];exact b2.cell 0
 have g2:W0.cell? ⟨p+1,0,none⟩=some (.slice D m d):=by rw [<-hp];exact b3.cell 0
 have K:zg (yg W0 (p+1+1) (.slice none 0 0)):=by rw [<-hp];exact b4.one
 have HB:=zd b1;have C:=zd (hA.below b1);have E:=zd (hD.below b1);have O:=zd (hT.on b1);refine(HU.o _ b1).mono ?_;rw [hp];clear hp hW b2 b3 b4 b5 hA hD hT b1;rintro e w1 ⟨rfl,hb⟩;obtain⟨g1,g2⟩:=zX hb g1 g2;have Z:=hb;clear hb;go_wp2_with fail;refine(HV.o _ (ze HB.o Z)).mono ?_;rintro e w2 ⟨rfl,hb⟩;obtain⟨g1,g2⟩:=zX hb g1 g2;have I:=ze Z hb;clear hb Z HU HV;by_cases hboth:n<=1/\m<=1
 ·obtain⟨h1,h2⟩:=hboth;rcases hu with⟨_,rfl,hux⟩|⟨h,_⟩
  ·rcases hv with⟨_,rfl,huy⟩|⟨h,_⟩
   ·have lx:x<18446744073709551616:=by
     have h:=yx (b:=18446744073709551616) zh x;exact qJ h (by rw [F.o];exact qL zh h1)
    have ly:y<18446744073709551616:=by
     have h:=yx (b:=18446744073709551616) zh y;exact qJ h (by rw [H.o];exact qL zh h2)
    have ex:ux=x:=by rw [hux];unfold wd;rw [yX,Nat.div_one,qP lx]
    have ey:uy=y:=by rw [huy];unfold wd;rw [yX,Nat.div_one,qP ly]
    subst ex ey;have GW:=zd (λw'=>dN ux uy w' lx ly);rw [HG.o] at GW;have lG:zg (G<18446744073709551616):=by
     show _<_;rw [<-HG.o];rcases QS ux with e|e
     ·rw [e,XN];exact ly
     ·exact QA (Nat.gcd_le_left _ e) lx
    clear hux huy lx ly F H;go_wp2_with fail;refine(GW.o _).mono ?_;rintro e w3 ⟨rfl,hb⟩;have j:=ze I hb;have NO:=zd (fun(W:World)=>show Calls prog 89 #[.slice (some ⟨W.heap.size,0,none⟩) 1 1] (W.alloc (.cells #[.int .u64 (G:Int)] 141)) (yq (W.alloc (.cells #[.int .u64 (G:Int)] 141)) G) from by
     have h:=vr (some ⟨W.heap.size,0,none⟩) 1 1 [G] (W.alloc (.cells #[.int .u64 (G:Int)] 141)) (aK W _ G).reads (by intro d hd;simp at hd;have:=lG.o;omega) (qX _) za za;rw [show dv 18446744073709551616 [G]=G by simp [dv]] at h;exact h)
    clear hb I;go_wp2_with fail;refine(NO.o _).mono ?_;rintro e w5 ⟨A5,n5,c5,rfl,B,hb,_⟩;have i:=ze (ym _ j) hb;clear j hb;have k5:=K.o.keep (w':=w5) i;have f5:=k5.frozen;have e5:=k5.cell;have r5:=(k5.set_ (.slice A5 n5 c5)).cell;have HE:zg (sY w G (.returned (.agg #[.slice A5 n5 c5])) (w5.setCell ⟨p+1+1,0,none⟩ (.slice A5 n5 c5))):=⟨_,_,_,rfl,yz B k5 _,(ze HB.o i).setCell (p:=⟨p+1+1,0,none⟩) (by show w.heap.size<=p+1+1;omega) _⟩;clear k5 B i;go_wp2;refine bodyPost_ret (v:=.agg #[.slice A5 n5 c5]) (by simp [results,results114,go_sem,r5]) rfl ?_;exact HE.o
   ·omega
  ·omega
 ·by_cases hx:x=0
  ·have aj:=zn W0 (λw' h=>show Calls _ _ _ _ (uF w' (dg 18446744073709551616 G).length (zw .u64 (dg 18446744073709551616 G))) from by
    have e:y=G:=by rw [<-HG.o,hx,XN]
    rw [<-e];exact nM y D m d w' (E.o.below h) za)
   have ah:zg ((dg 18446744073709551616 G).length<=1099511627776):=by
    show _<=_;rw [<-HG.o,hx,XN,H.o];omega
   have ZA:=zd (me hx (C.o.below I));have P:bx=true/\bY=false\/bx=false/\bY=true\/bx=false/\bY=false:=by
    rcases hu with⟨_,rfl,_⟩|⟨_,rfl⟩<;>rcases hv with⟨_,rfl,_⟩|⟨_,rfl⟩<;>first|(exfalso;omega)|simp
   clear hu hv hboth F H C E;rcases P with⟨rfl,rfl⟩|⟨rfl,rfl⟩|⟨rfl,rfl⟩
   all_goals
    go_wp2_with fail
    refine ZA.o.mono ?_
    rintro e w3 ⟨rfl,hb⟩
    have g2:=zq hb g2
    have j:=ze I hb
    clear hb
    go_wp2_with fail
    refine(aj.o _ j).mono ?_
    rintro e w4 ⟨A4,c4,rfl,S,Q,⟨R,_⟩,hb⟩
    have L:=ze j hb
    have NO:=vr A4 _ c4 (dg 18446744073709551616 G) w4 S (vp zh _) Q R ah.o
    rw [wV zh] at NO
    have N:=zd NO
    obtain⟨len,J⟩:∃len,(dg 18446744073709551616 G).length=len:=⟨_,rfl⟩
    rw [J] at N⊢
    clear NO S Q R hb J
    go_wp2_with fail
    refine N.o.mono ?_
    rintro e w5 ⟨A5,n5,c5,rfl,B,hb,_⟩
    have i:=ze L hb
    have k5:=K.o.keep (w':=w5) i
    have f5:=k5.frozen
    have e5:=k5.cell
    have r5:=(k5.set_ (.slice A5 n5 c5)).cell
    have HE:zg (sY w G (.returned (.agg #[.slice A5 n5 c5])) (w5.setCell ⟨p+1+1,0,none⟩ (.slice A5 n5 c5))):=⟨_,_,_,rfl,yz B k5 _,(ze HB.o i).setCell (p:=⟨p+1+1,0,none⟩) (by show w.heap.size<=p+1+1;omega) _⟩
    clear k5 B i
    go_wp2
    refine bodyPost_ret (v:=.agg #[.slice A5 n5 c5]) (by simp [results,results114,go_sem,r5]) rfl ?_
    exact HE.o
  ·by_cases hy:y=0
   ·have ai:=zn W0 (λw' h=>show Calls _ _ _ _ (uF w' (dg 18446744073709551616 G).length (zw .u64 (dg 18446744073709551616 G))) from by
     have e:x=G:=by rw [<-HG.o,hy,Nat.gcd_zero_right]
     rw [<-e];exact nM x A n c w' (C.o.below h) za)
    have ag:zg ((dg 18446744073709551616 G).length<=1099511627776):=by
     show _<=_;rw [<-HG.o,hy,Nat.gcd_zero_right,F.o];omega
    have ZA:=zd (oL hx (C.o.below I));have ZB:=zn W0 (λw' h=>me hy (E.o.below h));have P:bx=true/\bY=false\/bx=false/\bY=true\/bx=false/\bY=false:=by
     rcases hu with⟨_,rfl,_⟩|⟨_,rfl⟩<;>rcases hv with⟨_,rfl,_⟩|⟨_,rfl⟩<;>first|(exfalso;omega)|simp
    clear hu hv hboth F H C E;rcases P with⟨rfl,rfl⟩|⟨rfl,rfl⟩|⟨rfl,rfl⟩
    all_goals
     go_wp2_with fail
     refine ZA.o.mono ?_
     rintro e ak ⟨rfl,hb⟩
     obtain⟨g1,g2⟩:=zX hb g1 g2
     have u:=ze I hb
     clear hb
     go_wp2_with fail
     refine(ZB.o _ u).mono ?_
     rintro e w3 ⟨rfl,hb⟩
     have g1:=zq hb g1
     have j:=ze u hb
     clear hb u
     go_wp2_with fail
     refine(ai.o _ j).mono ?_
     rintro e w4 ⟨A4,c4,rfl,S,Q,⟨R,_⟩,hb⟩
     have L:=ze j hb
     have NO:=vr A4 _ c4 (dg 18446744073709551616 G) w4 S (vp zh _) Q R ag.o
     rw [wV zh] at NO
     have N:=zd NO
     obtain⟨len,J⟩:∃len,(dg 18446744073709551616 G).length=len:=⟨_,rfl⟩
     rw [J] at N⊢
     clear NO S Q R hb J
     go_wp2_with fail
     refine N.o.mono ?_
     rintro e w5 ⟨A5,n5,c5,rfl,B,hb,_⟩
     have i:=ze L hb
     have k5:=K.o.keep (w':=w5) i
     have f5:=k5.frozen
     have e5:=k5.cell
     have r5:=(k5.set_ (.slice A5 n5 c5)).cell
     have HE:zg (sY w G (.returned (.agg #[.slice A5 n5 c5])) (w5.setCell ⟨p+1+1,0,none⟩ (.slice A5 n5 c5))):=⟨_,_,_,rfl,yz B k5 _,(ze HB.o i).setCell (p:=⟨p+1+1,0,none⟩) (by show w.heap.size<=p+1+1;omega) _⟩
     clear k5 B i
     go_wp2
     refine bodyPost_ret (v:=.agg #[.slice A5 n5 c5]) (by simp [results,results114,go_sem,r5]) rfl ?_
     exact HE.o
   ·have ZA:=zd (oL hx (C.o.below I));have ZB:=zn W0 (λw' h=>oL hy (E.o.below h));have PA:=zn W0 (λw' h=>kO x A n c w' (C.o.below h) za (O.o.on h));have PB:=zn W0 (λw' h=>kO y D m d w' (E.o.below h) za (O.o.on h));have TA:=zn W0 (λw' h=>iH x A n c w' (C.o.below h) za (O.o.on h));have TB:=zn W0 (λw' h=>iH y D m d w' (E.o.below h) za (O.o.on h));have tx:=cG F.o;have ty:=cG H.o;have lx:=pT (b:=18446744073709551616) zh (gn x);have ly:=pT (b:=18446744073709551616) zh (gn y);rw [F.o] at lx;rw [H.o] at ly;have ox:=lX hx;have oy:=lX hy;have V:zg (2^min (yy x) (yy y)*Nat.gcd (xm x) (xm y)=G):=by show _=_;rw [tF hx hy];exact HG.o
    have lg:(dg 18446744073709551616 (Nat.gcd (xm x) (xm y))).length<=n:=qC (pT zh (Nat.gcd_le_left _ za)) lx;obtain⟨s,hs⟩:∃s,yy x=s:=⟨_,rfl⟩;obtain⟨t,ht⟩:∃s,yy y=s:=⟨_,rfl⟩;obtain⟨X,hX⟩:∃s,xm x=s:=⟨_,rfl⟩;obtain⟨Y,hY⟩:∃s,xm y=s:=⟨_,rfl⟩;rw [hs] at TA tx;rw [ht] at TB ty;rw [hX] at PA lx ox;rw [hY] at PB ly oy;rw [hs,ht,hX,hY] at V;rw [hX,hY] at lg;obtain⟨g,hg⟩:∃s,Nat.gcd X Y=s:=⟨_,rfl⟩;obtain⟨k,hk⟩:∃z,min s t=z:=⟨_,rfl⟩;rw [hg,hk] at V;rw [hg] at lg;have ae:k<=1099511627776:=za;have q1:(if (t:Int)<(s:Int) then(t:Int) else(s:Int))=(k:Int):=by split<;>omega
    have q6:(if t<s then(t:Int) else(s:Int))=(k:Int):=by split<;>omega
    have q2:(if t<s then t else s)=k:=by split<;>omega
    have q3:(if (s:Int)<=(t:Int) then(s:Int) else(t:Int))=(k:Int):=by split<;>omega
    have q4:(if (s:Int)<(t:Int) then(s:Int) else(t:Int))=(k:Int):=by split<;>omega
    have q5:(if s<t then s else t)=k:=by split<;>omega
    have OO:=zd (fun (w' : World) (A1 A2 : zf) (n1 n2 c1 c2 : Nat) (h1 : zp w' X A1 n1 c1) (h2 : zp w' Y A2 n2 c2) (h : Below W0.heap.size W0 w') => show Calls prog 127 #[.agg #[.slice A1 n1 c1],.agg #[.slice A2 n2 c2]] w' (sY w' g) from
     hg▸qp X Y A1 A2 n1 n2 c1 c2 w' h1 h2 (by rw [<-h1.len];omega) (by rw [<-h2.len];omega) ox oy (O.o.on h))
    have RA:=zd (fun (w' : World) (A1 : zf) (n1 c1 : Nat) (h1 : zp w' g A1 n1 c1) => show Calls prog 126 #[.agg #[.slice A1 n1 c1],.int .i64 (k : Int)] w' (yq w' G) from
     V.o▸WM g k A1 n1 c1 w' h1 (by rw [<-h1.len];omega) ae)
    have P:bx=true/\bY=false\/bx=false/\bY=true\/bx=false/\bY=false:=by
     rcases hu with⟨_,rfl,_⟩|⟨_,rfl⟩<;>rcases hv with⟨_,rfl,_⟩|⟨_,rfl⟩<;>first|(exfalso;omega)|simp
    clear hu hv hboth F H C E hs ht hX hY hg hk tx ty lx ly ox oy lg ae;have f3:=K.o.frozen;have lt3:=K.o.lt;rcases P with⟨rfl,rfl⟩|⟨rfl,rfl⟩|⟨rfl,rfl⟩
    all_goals
     go_wp2_with fail
     refine ZA.o.mono ?_
     rintro e ak ⟨rfl,hb⟩
     obtain⟨g1,g2⟩:=zX hb g1 g2
     have u:=ze I hb
     clear hb
     go_wp2_with fail
     refine(ZB.o _ u).mono ?_
     rintro e w3 ⟨rfl,hb⟩
     obtain⟨g1,g2⟩:=zX hb g1 g2
     have j:=ze u hb
     clear hb u
     have j:=j.drew
     have g1:w3.drew.cell? ⟨p,0,none⟩=some (.slice A n c):=g1
     have g2:w3.drew.cell? ⟨p+1,0,none⟩=some (.slice D m d):=g2
     go_wp2_with fail
     go_region_held3 (fun w' => w'.cell? ⟨p,0,none⟩ = some (.slice A n c) ∧ w'.cell? ⟨p + 1,0,none⟩ = some (.slice D m d))
      (first|(exact⟨g1,g2⟩)|(go_split_ands;(repeat' apply And.intro);all_goals (first|exact zo|exact zq a zo|exact zS _ (by show p≠p+1+1;omega) zo|exact zS _ (by show p+1≠p+1+1;omega) zo)))
      (first
        |(go_at_call 128;(with_reducible refine(PA.o _ j).mono ?_);rintro e w4 ⟨A4,n4,c4,rfl,U,a,_⟩;have L:=ze j a)
        |(go_at_call 128;(with_reducible refine(PB.o _ L).mono ?_);rintro e w5 ⟨A5,n5,c5,rfl,B,a,_⟩;have i:=ze L a;have U:=U.below a)
        |(go_at_call 127;(with_reducible refine(OO.o w5 A4 A5 n4 n5 c4 c5 U B i).mono ?_);rintro e w6 ⟨A6,n6,c6,rfl,M,a⟩;have aa:=ze i a)
        |(go_at_call 129;(with_reducible refine(TA.o _ aa).mono ?_);rintro e w7 ⟨rfl,a⟩;have ab:=ze aa a;have M:=M.below a)
        |(go_at_call 129;(with_reducible refine(TB.o _ ab).mono ?_);rintro e w8 ⟨rfl,a⟩;have ad:=ze ab a;have M:=M.below a)
        |(go_at_call 126;(with_reducible refine(RA.o w8 A6 n6 c6 M).mono ?_);rintro e w9 ⟨A9,n9,c9,rfl,af,a,_⟩;have T:=ze ad a;have k9:=K.o.keep T;have f9:=k9.frozen;have e9:=k9.cell))
     clear f9 e9 k9 a M B U ad ab aa i L
     have k5:=K.o.keep (w':=w9) T
     have f5:=k5.frozen
     have e5:=k5.cell
     have r5:=(k5.set_ (.slice A9 n9 c9)).cell
     have HE:zg (sY w G (.returned (.agg #[.slice A9 n9 c9])) (w9.setCell ⟨p+1+1,0,none⟩ (.slice A9 n9 c9))):=⟨_,_,_,rfl,yz af k5 _,(ze HB.o T).setCell (p:=⟨p+1+1,0,none⟩) (by show w.heap.size<=p+1+1;omega) _⟩
     clear k5 af T
     go_wp2
     refine bodyPost_ret (v:=.agg #[.slice A9 n9 c9]) (by simp [results,results114,go_sem,r5]) rfl ?_
     exact HE.o
