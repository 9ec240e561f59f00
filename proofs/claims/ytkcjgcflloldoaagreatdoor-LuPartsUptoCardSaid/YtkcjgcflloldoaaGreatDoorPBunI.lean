/- What this claim leans on. -/
import Derived.Test.YtkcjgcflloldoaaGreatDoorPD8Form
set_option linter.unusedVariables false
set_option linter.unusedSimpArgs false
namespace Go.Proofs.YtkcjgcflloldoaaGreatDoor
open Go Go.RowKit Go.Proofs.Tryz
set_option maxHeartbeats 16000000
set_option maxRecDepth 100000
variable {L:List Nat}{G X Y a g n x:Nat}{t:TypeId}{w:World}
theorem zJ.shrink {s:Nat}(h:zJ w t g a n L)(hs:s<=n):zJ w t g a s (L.take s):=by
 obtain⟨c,h0,h1,h2,h3,h4,h5⟩:=h;refine⟨c,h0,za,h2,h3,by rw [qL];omega,?_⟩;have e:=congrArg (List.take s) h5;rw [List.take_take,xG hs] at e;rw [e];unfold zt;rw [List.map_take]
theorem Zu {w':World}{b:Nat}(h:y6 g w w')(hr:zJ w t b a n L)(d:b≠g):zJ w' t b a n L:=by
 obtain⟨c,h0,h1⟩:=hr;exact⟨c,h.blk h0 d,h1⟩
theorem U8 (h:L.length=1):L.getD 0 0=dv 18446744073709551616 L:=by
 match L,h with
 |[a],_=>simp [dv]
theorem SV (w:World)(t:TypeId)(x:Nat):zJ (w.alloc (.cells #[.int .u64 (x:Int)] t)) t w.heap.size 1 1 [x]:=
 ⟨_,zh.new w t _,qX _,by unfold maxLen;omega,rfl,rfl,rfl⟩
theorem Uc (h0:X - Y≠0)(a:Y<=X)(hG:Nat.gcd X Y=G)(hY:Y%2=1):
  (X - Y) / 2^wD (X - Y)%2=1/\Nat.gcd ((X - Y) / 2^wD (X - Y)) Y=G/\(X - Y) / 2^wD (X - Y)<=X - Y/\(X - Y) / 2^wD (X - Y)+Y<X+Y:=by
 rcases sD (X - Y) with⟨h,_⟩|⟨m,hm⟩
 ·exact absurd h h0
 ·have h1:=ZC hm;have h3:(X - Y) / 2^wD (X - Y)<=X - Y:=QI _ _;have h2:∀t x:Nat,x=2^t*(2*m+1)->Nat.gcd (x / 2^t) Y=Nat.gcd x Y:=λt=>by
   induction t with
   |zero=>intro x _;rw [XM,Nat.div_one]
   |succ t ih=>
     intro x hx;have e:x / 2=2^t*(2*m+1):=by rw [hx,qO,qB (2^t) 2,qH,XT _ zf]
     rw [qO,qB (2^t) 2,<-xB,ih _ e];exact gM (by rw [hx,qO,qB (2^t) 2,qH];exact Nat.mul_mod_right _ _) za
  refine⟨h1,?_,h3,za⟩;rw [h2 _ _ hm,cS a];exact hG
def Zp (w0:World)(G:Nat)(e:Ending)(w':World):Prop:=
 ∃(A:ze) (m c:Nat) (L:List Nat),e=.returned (.slice A m c)/\zL w' w'.heap.size 1 A m (zt .u64 L)/\zH 18446744073709551616 L/\dv 18446744073709551616 L=G/\m<=c/\c<=maxLen/\m<=1099511627776/\Below w0.heap.size w0 w'
structure tR (w0 wr:World)(n G S:Nat)(tya tyb:TypeId)(ga gb ca cb s:Nat)(La Lb:List Nat):Prop where
 ra:zJ wr tya ga ca s La
 rb:zJ wr tyb gb cb s Lb
 ne:ga≠gb
 ha:w0.heap.size<=ga
 hb:w0.heap.size<=gb
 da:zH 18446744073709551616 La
 db:zH 18446744073709551616 Lb
 oa:dv 18446744073709551616 La%2=1
 ob:dv 18446744073709551616 Lb%2=1
 gcd:Nat.gcd (dv 18446744073709551616 La) (dv 18446744073709551616 Lb)=G
 sum:dv 18446744073709551616 La+dv 18446744073709551616 Lb=S
 le:s<=n
 below:Below w0.heap.size w0 wr
theorem qu (w0:World)(g i:TypeId)(ga gb ca cb n G:Nat)(La Lb:List Nat)(w:World)(hI:tR w0 w n G (dv 18446744073709551616 La+dv 18446744073709551616 Lb) g i ga gb ca cb n La Lb)(hn:n<=1099511627776)(hT:zu w0):
  Calls prog 169 #[.slice (some ⟨ga,0,none⟩) n ca,.slice (some ⟨gb,0,none⟩) n cb] w (Zp w0 G):=by
 have HT:=zb hT;have HI:=zb hI;clear hI hT;go_enter func169,ntmps169;go_wp2_with fail
 go_loopg [0,1] (dv 18446744073709551616 La+dv 18446744073709551616 Lb+1) (λgg u0 u1 wr=>∃(g i:TypeId) (ga gb ca cb s S:Nat) (La Lb:List Nat),u0=.slice (some ⟨ga,0,none⟩) s ca/\u1=.slice (some ⟨gb,0,none⟩) s cb/\tR w0 wr n G S g i ga gb ca cb s La Lb/\S<gg)
 case atStart=>exact⟨_,_,_,_,_,_,_,_,_,_,rfl,rfl,HI.o,za⟩
 case round=>
  clear HI;obtain⟨g,i,ga,gb,ca,cb,s0,S,y,z,rfl,rfl,⟨ra,rb,Q,O,P,A,B,oa,ob,hG,hS,hsn0,hB⟩,hgg⟩:=hrel;have SH:=zb (R7 g i ga gb ca cb s0 y z wr ra rb A B za za);have m:=zb ra;have a:=zb rb;have HB:=zb hB;clear ra rb hB;go_wp2_with fail;refine SH.o.mono ?_;rintro e w2 ⟨s,hs1,T,rfl,ea,eb,hb⟩;have ra:=(m.o.keep hb).shrink T;have rb:=(a.o.keep hb).shrink T;have hB:=zc HB.o hb;have da:=A.take s;have db:=B.take s;obtain⟨La,J⟩:∃L,y.take s=L:=⟨_,rfl⟩;obtain⟨Lb,K⟩:∃L,z.take s=L:=⟨_,rfl⟩;rw [J] at ra da ea;rw [K] at rb db eb;obtain⟨Xa,M⟩:∃X,dv 18446744073709551616 y=X:=⟨_,rfl⟩;obtain⟨Xb,N⟩:∃X,dv 18446744073709551616 z=X:=⟨_,rfl⟩;rw [M] at ea oa hG hS;rw [N] at eb ob hG hS;have R:s<=n:=za;have hs:s<=1099511627776:=za;have HG:=zb hG;have v:=zb oa;have I:=zb ob;clear J K M N SH m a HB hb A B hG;by_cases h1:s=1
  ·subst h1;have k1:=ra.cell 0 za;have k2:=rb.cell 0 za;rw [U8 ra.len,ea] at k1;rw [U8 rb.len,eb] at k2;have l1:=vy da;have l2:=vy db;rw [ra.len,ea] at l1;rw [rb.len,eb] at l2;have W:=λw'=>UV Xa Xb w' (by simpa using l1) (by simpa using l2);rw [HG.o] at W;have V:=zb (show Xa<18446744073709551616 by simpa using l1);have HW:=zb W;have Y:=hB.drew;have aa:w2.drew.cell? ⟨ga,0,none⟩=some (.int .u64 (Xa:Int)):=k1;have ab:w2.drew.cell? ⟨gb,0,none⟩=some (.int .u64 (Xb:Int)):=k2;clear W ra rb l1 l2 oa ob hB ea eb hS;go_wp2_with fail
   go_region_held3 (fun w' => w'.cell? ⟨ga,0,none⟩ = some (.int .u64 (Xa : Int)) ∧ w'.cell? ⟨gb,0,none⟩ = some (.int .u64 (Xb : Int)) ∧ Below w0.heap.size w0 w')
    (first|(exact⟨aa,ab,Y⟩)|(go_split_ands;(repeat' apply And.intro);all_goals (first|exact zl|exact zc zl hb|exact zq hb zl|with_reducible exact xx _ zl|with_reducible exact wi _ zl)))
    (first|(go_at_call 156;(with_reducible refine(HW.o _).mono ?_);rintro e w' ⟨rfl,hb⟩))
   rename_i hH
   have HE:zd (∀w':World,Below w0.heap.size w0 (w'.alloc (.cells #[.int .u64 (G:Int)] 125))->Zp w0 G (.returned (.slice (some ⟨w'.heap.size,0,none⟩) 1 1)) (w'.alloc (.cells #[.int .u64 (G:Int)] 125))):=λw' h=>by
    have hG1:G<18446744073709551616:=by
     have e:=HG.o;have:=Nat.gcd_le_left Xb (show 0<Xa by have:=v.o;omega);have l:Xa<18446744073709551616:=V.o;omega
    exact⟨_,_,_,[G],rfl,(SV w' _ G).reads,by intro d hd;simp at hd;omega,by simp [dv],qX _,by unfold maxLen;omega,za,h⟩
   go_wp2;go_ret;exact HE.o _ hH.2.2
  ·have hs1':((s:Int)==1)=false:=beq_eq_false_iff_ne.2 za;have BL:=Nu g i ga gb ca cb s La Lb w2 ra rb da db hs;rw [ea,eb] at BL;have m:=zb ra;have a:=zb rb;have HB:=zb hB;have F:=zb BL;have j:=hB.size;clear ra rb hB BL;go_wp2_with fail;refine F.o.mono ?_;rintro e ac ⟨rfl,hb⟩;have ra:=m.o.keep hb;have rb:=a.o.keep hb;have hB:=zc HB.o hb;clear m a HB F hb j;obtain⟨w2,Z⟩:∃x,x=ac:=⟨_,rfl⟩;subst Z;have C:=Q;have D:=Q.symm;have U:=HG;have H:zd (Nat.gcd Xb Xa=G):=by show _=_;rw [XN];exact HG.o
   by_cases hlt:Xa<Xb
   ·have hd:decide (Xa<Xb)=true:=by simpa using hlt
    have E:Xa<=Xb:=za;have HG:=H;have o:=zb (Vp i g gb ga cb ca s Lb La w2 rb ra za db da (by rw [eb,ea];omega) hs);have a:=zb ra;have c:=zb hB;have j:=hB.size;clear rb ra hB;go_wp2_with fail;refine o.o.mono ?_;rintro e w3 ⟨v3,L3,rfl,r3,d3,e3,o3⟩;have ra:=Zu o3 a.o za;have hB:=o3.below c.o j za;have t:=HT.o.on hB;rw [eb,ea] at e3;have DR:=Tf i gb cb s L3 w3 r3 d3 hs t;rw [e3] at DR;have k:=zb DR;have a:=zb ra;have c:=zb hB;have u:=hB.size;clear r3 ra hB o3 t DR o;go_wp2_with fail;refine k.o.mono ?_;rintro e w4 (⟨h0,rfl,rfl⟩|⟨h0,L4,rfl,r4,d4,e4,o4⟩)
    ·have hG:zd (Xa=G):=by
      have h:=HG.o;rw [show Xb=Xa from by omega,Nat.gcd_self] at h;exact h
     have HE:zd (Zp w0 G (.returned (.slice (some ⟨ga,0,none⟩) s ca)) w3):=⟨_,_,_,La,rfl,a.o.reads,da,by rw [ea];exact hG.o,a.o.room.1,a.o.room.2,za,c.o⟩;clear k hG a c;go_wp2;go_ret;exact HE.o
    ·have ra:=Zu o4 a.o za;have hB:=o4.below c.o u za;have hD:=Uc h0 E H.o v.o;rw [<-e4] at hD;obtain⟨g1,g2,g3,g4⟩:=hD;have HE:zd (tR w0 w4 n G (dv 18446744073709551616 L4+Xa) i g gb ga cb ca s L4 La):=⟨r4,ra,D,P,O,d4,da,g1,by rw [ea];exact v.o,by rw [ea];exact g2,by rw [ea],R,hB⟩;clear k r4 ra hB o4 e4 a c d4;go_wp2;go_roundg (dv 18446744073709551616 L4+Xa+1)
     case measure=>omega
     case rel=>exact⟨_,_,_,_,_,_,_,_,_,_,rfl,rfl,HE.o,za⟩
   ·have hd:decide (Xa<Xb)=false:=by simpa using hlt
    have E:Xb<=Xa:=za;have o:=zb (Vp g i ga gb ca cb s La Lb w2 ra rb za da db (by rw [ea,eb];omega) hs);have a:=zb rb;have c:=zb hB;have j:=hB.size;clear ra rb hB;go_wp2_with fail;refine o.o.mono ?_;rintro e w3 ⟨v3,L3,rfl,r3,d3,e3,o3⟩;have rb:=Zu o3 a.o za;have hB:=o3.below c.o j za;have t:=HT.o.on hB;rw [ea,eb] at e3;have DR:=Tf g ga ca s L3 w3 r3 d3 hs t;rw [e3] at DR;have k:=zb DR;have a:=zb rb;have c:=zb hB;have u:=hB.size;clear r3 rb hB o3 t DR o;go_wp2_with fail;refine k.o.mono ?_;rintro e w4 (⟨h0,rfl,rfl⟩|⟨h0,L4,rfl,r4,d4,e4,o4⟩)
    ·have hG:zd (Xb=G):=by
      have h:=HG.o;rw [show Xa=Xb from by omega,Nat.gcd_self] at h;exact h
     have HE:zd (Zp w0 G (.returned (.slice (some ⟨gb,0,none⟩) s cb)) w3):=⟨_,_,_,Lb,rfl,a.o.reads,db,by rw [eb];exact hG.o,a.o.room.1,a.o.room.2,za,c.o⟩;clear k hG a c;go_wp2;go_ret;exact HE.o
    ·have rb:=Zu o4 a.o za;have hB:=o4.below c.o u za;have hD:=Uc h0 E U.o I.o;rw [<-e4] at hD;obtain⟨g1,g2,g3,g4⟩:=hD;have HE:zd (tR w0 w4 n G (dv 18446744073709551616 L4+Xb) g i ga gb ca cb s L4 Lb):=⟨r4,rb,C,O,P,d4,db,g1,by rw [eb];exact I.o,by rw [eb];exact g2,by rw [eb],R,hB⟩;clear k r4 rb hB o4 e4 a c d4;go_wp2;go_roundg (dv 18446744073709551616 L4+Xb+1)
     case measure=>omega
     case rel=>exact⟨_,_,_,_,_,_,_,_,_,_,rfl,rfl,HE.o,za⟩
def wZ (x:Nat):Nat:=x / 2^wD x
theorem aD (x:Nat)(A:ze)(n c:Nat)(w:World)(hA:zo w x A n c)(hn:n<=274877906944)(hT:zu w):
  Calls prog 159 #[.agg #[.slice A n c]] w (wh w (wZ x)):=by
 have i:=zj w (λw' hb=>Xg x A n c w' (hA.below hb) za (hT.on hb));have g:=zj w (λw' hb=>show Calls _ _ _ _ (wh w' (wZ x)) from VG x (wD x) A n c w' (hA.below hb) za);obtain⟨t,ht⟩:∃t,wD x=t:=⟨_,rfl⟩;obtain⟨y,hy⟩:∃t,wZ x=t:=⟨_,rfl⟩;rw [ht] at i;rw [ht,hy] at g;rw [hy];clear hA hT ht hy;go_enter func159,ntmps159;go_wp2_with fail;obtain⟨hB,b2,b3,b5⟩:=z8 w 50 50 #[.slice A n c] #[.slice none 0 0];generalize hW:(w.alloc (.cells #[.slice A n c] 50)).alloc (.cells #[.slice none 0 0] 50)=W0 at*;have g1:W0.cell? ⟨w.heap.size,0,none⟩=some (.slice A n c):=b2.cell 0;clear hW b2 b5;have k:=hB.drew;have g0:W0.drew.cell? ⟨w.heap.size,0,none⟩=some (.slice A n c):=g1;have m:=b3.drew;clear hB g1 b3
 go_region_held3 (fun w' => Below w.heap.size w w' ∧ w'.cell? ⟨w.heap.size,0,none⟩ = some (.slice A n c))
  (first|(exact⟨k,g0⟩)|(go_split_ands;(repeat' apply And.intro);all_goals (first|exact zl|exact zc zl hb|exact zq hb zl|exact zB _ (by show w.heap.size<=w.heap.size+1;omega) zl|exact zW _ (by show w.heap.size≠w.heap.size+1;omega) zl)))
  (first
    |(go_at_call 160;(with_reducible refine(i.o _ (by first|exact zl|exact XO zl)).mono ?_);rintro e w2 ⟨rfl,hb⟩;have d:=zg hb m)
    |(go_at_call 170;(with_reducible refine(g.o _ (by first|exact zl|exact XO zl)).mono ?_);rintro e w3 ⟨A2,n2,c2,rfl,hw,hb,hf⟩;go_split_ands;have a:=zg hb d;have hc1:=a.cell 0;have hf1:=a.frozen 0;have j:Below w.heap.size w w3:=zc zl hb))
 have hsz:=j.size;have hz2:w.heap.size+1<w2.heap.size:=d.lt;have p4:xp w3 (w.heap.size+1) (.slice none 0 0):=⟨_,a⟩;have r4:=(p4.set_ (.slice A2 n2 c2)).cell;have HG : zd (wh w y (.returned (.agg #[.slice A2 n2 c2])) (w3.setCell ⟨w.heap.size + 1,0,none⟩ (.slice A2 n2 c2))) :=
  Zj hw j (by show _<=_;simp) (λad e=>by have:=hf ad e;show ad.block≠_;simp;omega) (λad e=>by have:=hf ad e;omega) _
 clear hw hf a d p4;go_wp2;refine bodyPost_ret (v:=.agg #[.slice A2 n2 c2]) (by simp [results,results159,go_sem,r4]) rfl ?_;exact HG.o
theorem mZ {m:Nat}(hY:Y%2=1):∀t x:Nat,x=2^t*(2*m+1)->Nat.gcd (x / 2^t) Y=Nat.gcd x Y:=λt=>by
 induction t with
 |zero=>intro x _;rw [XM,Nat.div_one]
 |succ t ih=>
   intro x hx;have e:x / 2=2^t*(2*m+1):=by rw [hx,qO,qB (2^t) 2,qH,XT _ zf]
   rw [qO,qB (2^t) 2,<-xB,ih _ e];exact gM (by rw [hx,qO,qB (2^t) 2,qH];exact Nat.mul_mod_right _ _) za
theorem Xz (x:Nat):wZ x<=x:=QI _ _
theorem cH (h:x≠0):wZ x%2=1:=by
 rcases sD x with⟨e,_⟩|⟨m,hm⟩
 ·exact absurd e h
 ·exact ZC hm
theorem pK (hY:Y%2=1):Nat.gcd (wZ x) Y=Nat.gcd x Y:=by
 rcases sD x with⟨e,_⟩|⟨m,hm⟩
 ·rw [e];show Nat.gcd (0 / _) Y=_;rw [Nat.zero_div]
 ·exact mZ hY _ _ hm
theorem T6 (h0:X%Y≠0)(hG:Nat.gcd X Y=G)(hY:Y%2=1):wZ (X%Y)%2=1/\Nat.gcd (wZ (X%Y)) Y=G/\wZ (X%Y)<=X%Y:=by
 refine⟨cH h0,?_,Xz _⟩;rw [pK hY,<-hG,XN X Y,Nat.gcd_rec Y X]
structure nL (w wr:World)(p G S xa xb:Nat)(Aa Ab:ze)(na ca nb cb:Nat):Prop where
 ka:xp wr p (.slice Aa na ca)
 kb:xp wr (p+1) (.slice Ab nb cb)
 kr:xp wr (p+1+1) (.slice none 0 0)
 wa:zo wr xa Aa na ca
 wb:zo wr xb Ab nb cb
 oa:xa%2=1
 ob:xb%2=1
 gcd:Nat.gcd xa xb=G
 sum:xa+xb=S
 la:na<=1073741824
 lb:nb<=1073741824
 below:Below w.heap.size w wr
theorem mn (x y:Nat)(A D:ze)(n m c d:Nat)(w:World)(hA:zo w x A n c)(hD:zo w y D m d)(hn:n<=1073741824)(hm:m<=1073741824)(hx:x%2=1)(hy:y%2=1)(hT:zu w):
  Calls prog 158 #[.agg #[.slice A n c],.agg #[.slice D m d]] w (oU w (Nat.gcd x y)):=by
 have HT:=zb hT;have HA:=zb hA;have HD:=zb hD;obtain⟨G,hG⟩:∃g,Nat.gcd x y=g:=⟨_,rfl⟩;rw [hG];have V:=zb hG;clear hT hA hD hG;go_enter func158,ntmps158;go_wp2_with fail;obtain⟨b1,b2,b3,b4,b5⟩:=yF w 50 50 50 #[.slice A n c] #[.slice D m d] #[.slice none 0 0];generalize hW:((w.alloc (.cells #[.slice A n c] 50)).alloc (.cells #[.slice D m d] 50)).alloc (.cells #[.slice none 0 0] 50)=W0 at*;obtain⟨p,hp⟩:∃p,w.heap.size=p:=⟨_,rfl⟩;have hpw:w.heap.size<=p:=za;have H0:zd (nL w W0 p G (x+y) x y A D n c m d):=⟨by rw [<-hp];exact b2.one,by rw [<-hp];exact b3.one,by rw [<-hp];exact b4.one,HA.o.below b1,HD.o.below b1,hx,hy,V.o,rfl,hn,hm,b1⟩;rw [hp];clear hp hW b1 b2 b3 b4 b5 HA HD hx hy hn hm V
 go_loopg [5] (x+y+1) (λgg _ wr=>∃(S xa xb:Nat) (Aa Ab:ze) (na ca nb cb:Nat),nL w wr p G S xa xb Aa Ab na ca nb cb/\S<gg)
 case atStart=>exact⟨_,_,_,_,_,_,_,_,_,H0.o,za⟩
 case round=>
  clear H0;obtain⟨S,xa,xb,Aa,Ab,na,ca,nb,cb,⟨k1,k2,k3,wa,wb,oa,ob,hG,hS,T,U,a⟩,hgg⟩:=hrel;have HG:=zb hG;have X:=HG;have Y:zd (Nat.gcd xb xa=G):=by show _=_;rw [XN];exact hG
  have F:=zb oa;have J:=zb ob;have LA:=zb (λw'=>ui xa Aa na ca w');have LB:=zb (λw'=>ui xb Ab nb cb w');have u:=zb k1;have o:=zb k2;have j:=zb k3;have i:=zb a;have K:=zb wa;have s:=zb wb;have c1:wr.drew.cell? ⟨p,0,none⟩=some (.slice Aa na ca):=k1.cell;have c2:wr.drew.cell? ⟨p+1,0,none⟩=some (.slice Ab nb cb):=k2.cell;have N:Below wr.heap.size wr wr.drew:=(qZ _ wr).drew;clear k1 k2 k3 wa wb a oa ob hG;go_wp2_with fail
  go_region_held3 (fun w' => w'.cell? ⟨p,0,none⟩ = some (.slice Aa na ca) ∧ w'.cell? ⟨p + 1,0,none⟩ = some (.slice Ab nb cb) ∧ Below wr.heap.size wr w')
   (first|(exact⟨c1,c2,N⟩)|(go_split_ands;(repeat' apply And.intro);all_goals (first|exact zl|exact zq t zl|exact zc zl t)))
   (first|(go_at_call 104;(first|(with_reducible refine(LA.o _).mono ?_)|(with_reducible refine(LB.o _).mono ?_));rintro e w2 ⟨rfl,t⟩))
  rename_i hH
  obtain⟨c1,c2,B⟩:=hH;by_cases hl:na=nb
  ·subst hl;have R:((na:Int) !=(na:Int))=false:=zG;have WA:=zj wr (λw' h=>bR xa Aa na ca w' (K.o.below h) za);have WB:=zj wr (λw' h=>bR xb Ab na cb w' (s.o.below h) za);have ae:0<na:=by
    rcases xQ na with e|e
    ·have h:=K.o.len;rw [e] at h;have h2:=vw (b:=18446744073709551616) zf xa;rw [QX h] at h2;have:=F.o;simp [dv] at h2;omega
    ·exact e
   have O:=B.drew;have c1:w2.drew.cell? ⟨p,0,none⟩=some (.slice Aa na ca):=c1;have c2:w2.drew.cell? ⟨p+1,0,none⟩=some (.slice Ab na cb):=c2;have c1r:=u.o.cell;have c2r:=o.o.cell;have al:=zb (HT.o.on i.o);have aj:=zb j.o;have f3:=j.o.frozen;have lt3:=j.o.lt;have ai:=zb (fun(w5:World) (ga gb L M:Nat) (ra:zJ w5 125 ga L na (dg 18446744073709551616 xa)) (rb:zJ w5 125 gb M na (dg 18446744073709551616 xb)) (R:ga≠gb) (h1:wr.heap.size<=ga) (h2:wr.heap.size<=gb) (hb:Below wr.heap.size wr w5)=>
    qu wr 125 125 ga gb L M na G (dg 18446744073709551616 xa) (dg 18446744073709551616 xb) w5 ⟨ra,rb,R,h1,h2,uA zf _,uA zf _,by rw [vw zf];exact F.o,by rw [vw zf];exact J.o,by rw [vw zf,vw zf];exact HG.o,rfl,qX _,hb⟩ za al.o)
   have ak:=zb (fun(w6:World) (A6:ze) (m6 c6:Nat) (L6:List Nat) (h:zL w6 w6.heap.size 1 A6 m6 (zt .u64 L6)) (hd:zH 18446744073709551616 L6) (hv:dv 18446744073709551616 L6=G) (h1:m6<=c6) (h2:c6<=maxLen) (h3:m6<=1099511627776)=>
    show Calls prog 106 #[.slice A6 m6 c6] w6 (wh w6 G) from hv▸tK A6 m6 c6 L6 w6 h hd h1 (by unfold maxLen at h2;omega) h3)
   clear B t;go_wp2_with fail
   go_region_held3 (fun w' => w'.cell? ⟨p,0,none⟩ = some (.slice Aa na ca) ∧ w'.cell? ⟨p + 1,0,none⟩ = some (.slice Ab na cb))
    (first|(exact⟨c1,c2⟩)|(go_split_ands;(repeat' apply And.intro);all_goals (first|exact zl|exact zq t zl|exact zc zl t|exact zB _ (by show wr.heap.size<=p+1+1;omega) zl|exact zW _ (by show p≠p+1+1;omega) zl|exact zW _ (by show p+1≠p+1+1;omega) zl)))
    (first
      |(go_at_call 103;(with_reducible refine(WA.o _ O).mono ?_);rintro e w4 ⟨v4,rfl,az,t⟩;have ab:=zc O t;obtain⟨ga,L,rfl,ar,ra⟩:=zJ.of_own az ae)
      |(go_at_call 103;(with_reducible refine(WB.o _ ab).mono ?_);rintro e w5 ⟨v5,rfl,a0,t⟩;have ap:=zc ab t;obtain⟨gb,M,rfl,hgb,rb⟩:=zJ.of_own a0 ae;have ah:=ra.keep t)
      |(go_at_call 169;(with_reducible refine(ai.o w5 ga gb L M ah rb (by have h1:=ra.lt;omega) (qD O.size ar) (by have h1:=ra.lt;have h2:=O.size;omega) ap).mono ?_);rintro e w6 ⟨A6,m6,c6,L6,rfl,C,ad,af,am,an,ao,t⟩;have ac:=t)
      |(go_at_call 106;(with_reducible refine(ak.o w6 A6 m6 c6 L6 C ad af am an ao).mono ?_);rintro e w7 ⟨A7,n7,c7,rfl,ag,t,aq⟩;have Q:=zc ac t;have k7:=aj.o.keep Q;have f7:=k7.frozen;have e7:=k7.cell))
   have r7:=(k7.set_ (.slice A7 n7 c7)).cell;have HE:zd (oU w G (.returned (.agg #[.slice A7 n7 c7])) (w7.setCell ⟨p+1+1,0,none⟩ (.slice A7 n7 c7))):=⟨_,_,_,rfl,wB ag k7 _,(zc i.o Q).setCell (p:=⟨p+1+1,0,none⟩) (by show w.heap.size<=p+1+1;omega) _⟩;clear k7 Q t ag aq ac C ad af ah rb ra;go_wp2;refine bodyPost_ret (v:=.agg #[.slice A7 n7 c7]) (by simp [results,results158,go_sem,r7]) rfl ?_;exact HE.o
  ·have R:((na:Int) !=(nb:Int))=true:=by simp;omega
   have N:=B.drew;have Z:w2.drew.cell? ⟨p,0,none⟩=some (.slice Aa na ca):=c1;have aa:w2.drew.cell? ⟨p+1,0,none⟩=some (.slice Ab nb cb):=c2;clear B c1 c2;go_wp2_with fail
   go_region_held3 (fun w' => w'.cell? ⟨p,0,none⟩ = some (.slice Aa na ca) ∧ w'.cell? ⟨p + 1,0,none⟩ = some (.slice Ab nb cb) ∧ Below wr.heap.size wr w')
    (first|(exact⟨Z,aa,N⟩)|(go_split_ands;(repeat' apply And.intro);all_goals (first|exact zl|exact zq t zl|exact zc zl t)))
    (first|(go_at_call 104;(first|(with_reducible refine(LA.o _).mono ?_)|(with_reducible refine(LB.o _).mono ?_));rintro e w3 ⟨rfl,t⟩))
   rename_i hH
   obtain⟨c1,c2,B⟩:=hH;have k1:=u.o.keep B;have k2:=o.o.keep B;have k3:=j.o.keep B;have a:=zc i.o B;have wa:=K.o.below B;have wb:=s.o.below B;clear t Z aa N u o j i K s LA LB B;by_cases hlt:na<nb
   ·have f1:=k1.frozen;have f2:=k2.frozen;have q1:=k1.set_ (.slice Ab nb cb);have q2:=(k2.far (p:=⟨p,0,none⟩) (by show p+1≠p;omega) (.slice Ab nb cb));have r1:=q1.far (p:=⟨p+1,0,none⟩) (by show p≠p+1;omega) (.slice Aa na ca);have r2:=q2.set_ (.slice Aa na ca);have r3:=(k3.far (p:=⟨p,0,none⟩) (by show p+1+1≠p;omega) (.slice Ab nb cb)).far (p:=⟨p+1,0,none⟩) (by show p+1+1≠p+1;omega) (.slice Aa na ca);have ra:=wB (wB wa k1 (.slice Ab nb cb)) q2 (.slice Aa na ca);have rb:=wB (wB wb k1 (.slice Ab nb cb)) q2 (.slice Aa na ca);have rB:=(a.setCell (p:=⟨p,0,none⟩) (by show w.heap.size<=p;omega) (.slice Ab nb cb)).setCell (p:=⟨p+1,0,none⟩) (by show w.heap.size<=p+1;omega) (.slice Aa na ca);have e1:=r1.cell;have e2:=r2.cell;have f3:=q2.frozen;have e3:=q2.cell;clear k1 k2 k3 wa wb a q1 q2;go_wp2_with fail;clear e1 e2 e3 f1 f2 f3 c1 c2;generalize (w3.setCell ⟨p,0,none⟩ (.slice Ab nb cb)).setCell ⟨p+1,0,none⟩ (.slice Aa na ca)=W at*;have k1:=r1;have k2:=r2;have k3:=r3;have wa:=ra;have wb:=rb;have a:=rB;clear r1 r2 r3 ra rb rB;have aw:xa<xb:=gn (b:=18446744073709551616) zf (by rw [wb.len,wa.len];omega);have P:xa≠0:=by have:=F.o;omega
    have MD:=zb (kX.mod xb xa Ab Aa nb na cb ca W wb wa U T P);have s:=zb wa;have u:=zb k1;have o:=zb k2;have j:=zb k3;have i:=zb a;have I:=wa.len;clear wa wb k1 k2 k3 a;refine MD.o.mono ?_;rintro e w3 ⟨A3,n3,c3,rfl,k,hb⟩;have k1:=u.o.keep hb;have k2:=o.o.keep hb;have k3:=j.o.keep hb;have a:=zc i.o hb;have wa:=s.o.below hb;obtain⟨d1,d2,d3⟩:=zw w3 50 #[.slice A3 n3 c3];have k1:=k1.keep d1;have k2:=k2.keep d1;have k3:=k3.keep d1;have a:=zc a d1;have wa:=wa.below d1;have k:=k.below d1;have k5:=d2.one;have g5:=k5.cell;have f1:=k1.frozen;have e1:=k1.cell;have au:=k1.lt;have av:=k3.lt;clear d1 d2 d3 hb u o j i s MD;by_cases hz:xb%xa=0
    ·have hG:zd (xa=G):=by
      have h:=Y.o;rw [XN,Nat.gcd_rec,hz,XI] at h;exact h
     have ZY:=zb (iP hz k);have o:=zb k2;have j:=zb k3;have i:=zb a;have s:=zb wa;clear k1 k2 k3 a wa k e1 f1;go_wp2_with fail;refine ZY.o.mono ?_;rintro e w4 ⟨rfl,hb⟩;have k2:=o.o.keep hb;have k3:=j.o.keep hb;have a:=zc i.o hb;have wa:=s.o.below hb;have e2:=k2.cell;have e3:=k3.cell;have f3:=k3.frozen;have r4:=(k3.set_ (.slice Aa na ca)).cell;have HE:zd (oU w G (.returned (.agg #[.slice Aa na ca])) (w4.setCell ⟨p+1+1,0,none⟩ (.slice Aa na ca))):=⟨_,_,_,rfl,by rw [<-hG.o];exact wB wa k3 _,a.setCell (p:=⟨p+1+1,0,none⟩) (by show w.heap.size<=p+1+1;omega) _⟩;clear hG o j i s k2 k3 wa a hb;go_wp2;refine bodyPost_ret (v:=.agg #[.slice Aa na ca]) (by simp [results,results158,go_sem,r4]) rfl ?_;exact HE.o
    ·have ZN:=zb (ju hz k);have H:=zb k;have u:=zb k1;have o:=zb k2;have j:=zb k3;have i:=zb a;have s:=zb wa;clear k1 k2 k3 a wa k e1 f1;go_wp2_with fail;refine ZN.o.mono ?_;rintro e w4 ⟨rfl,hb⟩;have g5:=zq hb g5;have k:=H.o.below hb;have a:=zc i.o hb;have a1:xb%xa<xa:=QA _ za;have ax:n3<=na:=by
      rw [<-k.len,<-I];exact sf zf za
     have OP:=zb (aD _ A3 n3 c3 w4 k za (HT.o.on a));have E:=zb hb;clear k a H hb;go_wp2_with fail;refine OP.o.mono ?_;rintro e w5 ⟨A6,n6,c6,rfl,C,hb,_⟩;have z:=zc E.o hb;have k1:=u.o.keep z;have k2:=o.o.keep z;have k3:=j.o.keep z;have a:=zc i.o z;have wa:=s.o.below z;have hs:=T6 hz Y.o F.o;obtain⟨g1,g2,g3⟩:=hs;have ay:n6<=na:=by
      rw [<-C.len,<-I];exact sf zf za
     have HE : zd (nL w (w5.setCell ⟨p,0,none⟩ (.slice A6 n6 c6)) p G (wZ (xb % xa) + xa) (wZ (xb % xa)) xa A6 Aa n6 c6 na ca) :=
      ⟨k1.set_ _,k2.far (p:=⟨p,0,none⟩) (by show p+1≠p;omega) _,k3.far (p:=⟨p,0,none⟩) (by show p+1+1≠p;omega) _,wB C k1 _,wB wa k1 _,g1,F.o,g2,rfl,za,T,a.setCell (p:=⟨p,0,none⟩) (by show w.heap.size<=p;omega) _⟩
     have e1:=k1.cell;have f1:=k1.frozen;clear k1 k2 k3 a wa C z E hb u o j i s g5;go_wp2;go_roundg (wZ (xb%xa)+xa+1)
     case measure=>omega
     case rel=>exact⟨_,_,_,_,_,_,_,_,_,HE.o,za⟩
   ·clear c1 c2;have c1:=k1.cell;have c2:=k2.cell;go_wp2_with fail;obtain⟨W,hW⟩:∃x,x=w3:=⟨_,rfl⟩;subst hW;have aw:xb<xa:=gn (b:=18446744073709551616) zf (by rw [wa.len,wb.len];omega);have P:xb≠0:=by have:=J.o;omega
    have MD:=zb (kX.mod xa xb Aa Ab na nb ca cb W wa wb T U P);have s:=zb wb;have u:=zb k1;have o:=zb k2;have j:=zb k3;have i:=zb a;have I:=wb.len;clear wa wb k1 k2 k3 a;refine MD.o.mono ?_;rintro e w3 ⟨A3,n3,c3,rfl,k,hb⟩;have k1:=u.o.keep hb;have k2:=o.o.keep hb;have k3:=j.o.keep hb;have a:=zc i.o hb;have wb:=s.o.below hb;obtain⟨d1,d2,d3⟩:=zw w3 50 #[.slice A3 n3 c3];have k1:=k1.keep d1;have k2:=k2.keep d1;have k3:=k3.keep d1;have a:=zc a d1;have wb:=wb.below d1;have k:=k.below d1;have k5:=d2.one;have g5:=k5.cell;have f1:=k1.frozen;have e1:=k1.cell;have au:=k1.lt;have av:=k3.lt;clear d1 d2 d3 hb u o j i s MD;by_cases hz:xa%xb=0
    ·have hG:zd (xb=G):=by
      have h:=X.o;rw [XN,Nat.gcd_rec,hz,XI] at h;exact h
     have ZY:=zb (iP hz k);have o:=zb k2;have j:=zb k3;have i:=zb a;have s:=zb wb;clear k1 k2 k3 a wb k e1 f1;go_wp2_with fail;refine ZY.o.mono ?_;rintro e w4 ⟨rfl,hb⟩;have k2:=o.o.keep hb;have k3:=j.o.keep hb;have a:=zc i.o hb;have wb:=s.o.below hb;have e2:=k2.cell;have e3:=k3.cell;have f3:=k3.frozen;have r4:=(k3.set_ (.slice Ab nb cb)).cell;have HE:zd (oU w G (.returned (.agg #[.slice Ab nb cb])) (w4.setCell ⟨p+1+1,0,none⟩ (.slice Ab nb cb))):=⟨_,_,_,rfl,by rw [<-hG.o];exact wB wb k3 _,a.setCell (p:=⟨p+1+1,0,none⟩) (by show w.heap.size<=p+1+1;omega) _⟩;clear hG o j i s k2 k3 wb a hb;go_wp2;refine bodyPost_ret (v:=.agg #[.slice Ab nb cb]) (by simp [results,results158,go_sem,r4]) rfl ?_;exact HE.o
    ·have ZN:=zb (ju hz k);have H:=zb k;have u:=zb k1;have o:=zb k2;have j:=zb k3;have i:=zb a;have s:=zb wb;clear k1 k2 k3 a wb k e1 f1;go_wp2_with fail;refine ZN.o.mono ?_;rintro e w4 ⟨rfl,hb⟩;have g5:=zq hb g5;have k:=H.o.below hb;have a:=zc i.o hb;have a1:xa%xb<xb:=QA _ za;have ax:n3<=nb:=by
      rw [<-k.len,<-I];exact sf zf za
     have OP:=zb (aD _ A3 n3 c3 w4 k za (HT.o.on a));have E:=zb hb;clear k a H hb;go_wp2_with fail;refine OP.o.mono ?_;rintro e w5 ⟨A6,n6,c6,rfl,C,hb,_⟩;have z:=zc E.o hb;have k1:=u.o.keep z;have k2:=o.o.keep z;have k3:=j.o.keep z;have a:=zc i.o z;have wb:=s.o.below z;have hs:=T6 hz X.o J.o;obtain⟨g1,g2,g3⟩:=hs;have ay:n6<=nb:=by
      rw [<-C.len,<-I];exact sf zf za
     have HE : zd (nL w (w5.setCell ⟨p,0,none⟩ (.slice A6 n6 c6)) p G (wZ (xa % xb) + xb) (wZ (xa % xb)) xb A6 Ab n6 c6 nb cb) :=
      ⟨k1.set_ _,k2.far (p:=⟨p,0,none⟩) (by show p+1≠p;omega) _,k3.far (p:=⟨p,0,none⟩) (by show p+1+1≠p;omega) _,wB C k1 _,wB wb k1 _,g1,J.o,g2,rfl,za,U,a.setCell (p:=⟨p,0,none⟩) (by show w.heap.size<=p;omega) _⟩
     have e1:=k1.cell;have f1:=k1.frozen;clear k1 k2 k3 a wb C z E hb u o j i s g5;go_wp2;go_roundg (wZ (xa%xb)+xb+1)
     case measure=>omega
     case rel=>exact⟨_,_,_,_,_,_,_,_,_,HE.o,za⟩
theorem Pk (x k:Nat)(A:ze)(n c:Nat)(w:World)(hA:zo w x A n c)(hn:n<=137438953472)(hk:k<=1099511627776):
  Calls prog 157 #[.agg #[.slice A n c],.int .i64 k] w (wh w (2^k*x)):=by
 obtain⟨i0,J,O,P,Q⟩:=info_parts o6;have hsz:Sz (n+1) (2^(k%64)*x):=Sz.shl' (M:=1) (show Sz n x by have h:=yv (b:=18446744073709551616) zf x;rw [hA.len] at h;exact h) za;have HS:=zj w (λw' hb=>SJ x (k%64) A n c w' (hA.below hb) za za);have HV:zd (18446744073709551616^(k / 64)*(2^(k%64)*x)=2^k*x):=by show _=_;rw [<-qH,my]
 obtain⟨q,hq⟩:∃q,k / 64=q:=⟨_,rfl⟩;obtain⟨r,hr⟩:∃r,k%64=r:=⟨_,rfl⟩;have ai:(k:Int) / 64=(q:Int):=za;have aj:(k:Int)%64=(r:Int):=za;have hqt:(k:Int).tdiv 64=(q:Int):=by rw [Int.tdiv_eq_ediv_of_nonneg za];exact ai
 have hrt:(k:Int).tmod 64=(r:Int):=by rw [xC za];exact aj
 have hqk:q<=17179869184:=za;have hqw:IntKind.i64.wrap (q:Int)=(q:Int):=QS _ za;have hrw:IntKind.i64.wrap (r:Int)=(r:Int):=QS _ za;rw [hq,hr] at HV;rw [hr] at HS hsz;obtain⟨y,hy⟩:∃y,2^r*x=y:=⟨_,rfl⟩;obtain⟨X,hX⟩:∃y,2^k*x=y:=⟨_,rfl⟩;rw [hy] at HS hsz;rw [hy,hX] at HV;rw [hX];have ae:=zb hsz;have HW:=zb (λw' A' n' c' (h:zo w' y A' n' c') (hb:n'<=1099511627776)=>bR y A' n' c' w' h hb);obtain⟨Z,hZ⟩:∃Z,madeCells (Value.cells (.int .u64 0)) q=Z:=⟨_,rfl⟩;have hmk:∀W:World,(Instr.makeSlice 48 (.int .i64 (q:Int)) (.int .i64 (q:Int))).run prog W=.ok (.slice (some ⟨W.heap.size,0,none⟩) q q) (W.alloc (.cells Z 125)):=λW=>by
  have h:=sV _ _ i0 _ underlying48 J O .i64 .i64 q q (qX _) (by rw [Q];omega) za W;rw [P,xS,hZ] at h;exact h
 have HM:zd (∀W:World,zJ (W.alloc (.cells Z 125)) 125 W.heap.size q q (List.replicate q 0)):=λW=>by
  have h:=zJ.made W 125 q (by unfold maxLen;omega);rw [hZ] at h;exact h
 clear hZ hA hq hr hy hX hsz;go_enter func157,ntmps157;go_wp2_with fail;obtain⟨b1,b2,b3,b5⟩:=z8 w 50 50 #[.slice A n c] #[.slice none 0 0];generalize hW:(w.alloc (.cells #[.slice A n c] 50)).alloc (.cells #[.slice none 0 0] 50)=W0 at*;clear hW b2;refine(HS.o _ b1).mono ?_;rintro e w1 ⟨A1,n1,c1,rfl,L,hb,Y⟩;have hB:=zc b1 hb;have t:=zg hb b3;clear hb b1 b3 b5 Y HS;obtain⟨d1,d2,d5⟩:=zw w1 50 #[.slice A1 n1 c1];have hB:=zc hB d1;have t:=zg d1 t;have N:=L.below d1;have g5:(w1.alloc (.cells #[.slice A1 n1 c1] 50)).cell? ⟨w1.heap.size,0,none⟩=some (.slice A1 n1 c1):=d2.cell 0;have hn1:n1<=n+1:=by have h:=L.len;rw [<-h];exact wP zf _ _ ae.o
 have hl4:=t.lt;clear d1 d2 d5 L;go_wp2_with fail;generalize hW:w1.alloc (.cells #[.slice A1 n1 c1] 50)=W at*;obtain⟨z,hz⟩:∃z,w1.heap.size=z:=⟨_,rfl⟩;rw [hz] at g5⊢;clear hW hz;have hbw:=hB.size;have G0:W.drew.cell? ⟨z,0,none⟩=some (.slice A1 n1 c1):=g5;have G1:(W.alloc (.cells Z 125)).cell? ⟨z,0,none⟩=some (.slice A1 n1 c1):=wi _ g5;have G2:(W.alloc (.cells Z 125)).drew.cell? ⟨z,0,none⟩=some (.slice A1 n1 c1):=G1;have T:=zb N;have ab:zd ((dg 18446744073709551616 y).length=n1):=N.len;have S:=zb (vw (b:=18446744073709551616) zf y);have R:=zb (uA (b:=18446744073709551616) zf y);obtain⟨D,hD⟩:∃D,dg 18446744073709551616 y=D:=⟨_,rfl⟩;rw [hD] at HW ab S R;clear N hD;have ah:=HW.o W A1 n1 c1 T.o za;have WD:∀w',zd (Below W.heap.size W w')->Calls prog 103 #[.agg #[.slice A1 n1 c1]] w' (cN w' n1 (zt .u64 D)):=λw' h=>HW.o w' A1 n1 c1 (T.o.below h.o) za;have af:=zb WD;have G:zd (Below W.heap.size W W.drew):=(qZ _ W).drew;have H:zd (Below W.heap.size W (W.alloc (.cells Z 125)).drew):=((qZ _ W).alloc (qX _) _).drew;have ag:zd (zJ (W.alloc (.cells Z 125)).drew 125 W.heap.size q q (List.replicate q 0)):=(HM.o W).drew;have ac:=zb (fun(w':World) (A':ze) (c':Nat) (h:zL w' w'.heap.size 1 A' (q+n1) (zt .u64 (List.replicate q 0++D))) (h1:q+n1<=c') (h2:c'<=9223372036854775807)=>
  show Calls prog 106 #[.slice A' (q+n1:Nat) c'] w' (wh w' X) from by
   have h:=tK A' (q+n1) c' (List.replicate q 0++D) w' h ((zH.zeros zf q).append R.o) h1 h2 za;rw [tF,iK,yM,S.o,xR,HV.o] at h;exact h)
 clear WD ah
 go_region_law (first
  |(refine Vd _ rfl (.tmp 16) (.tmp 18) 48 rfl W.heap.size 125 i0 (.int .u64 0) 1 8 underlying48 J O P Q rfl zf (.slice (some ⟨W.heap.size,0,none⟩) q q) q (zt .u64 (List.replicate q 0)) rfl ((ag.o.keep s).own (qX _)) w3.heap.size A3 n1 c3 (zt .u64 D) rfl K (iO _ _) (by unfold maxLen;omega) za d.size ?_;intro v4 w4 i a B;have o:Below W.heap.size W w4:=d.grown a d.size (λg e=>by cases e;exact qX _);obtain⟨A4,c4,rfl,C,E,m⟩:=zL.of_grown_own i;rw [<-sE] at m)
  |(refine Vd _ rfl (.tmp 16) (.tmp 18) 48 rfl W.heap.size 125 i0 (.int .u64 0) 1 8 underlying48 J O P Q rfl zf (.slice (some ⟨w3.heap.size,0,none⟩) q q) q (zt .u64 (List.replicate q 0)) rfl ((HM.o w3).own d.size) w3.heap.size A3 n1 c3 (zt .u64 D) rfl (K.alloc (qX _) _) (iO _ _) (by unfold maxLen;omega) za (by have:=d.size;simp;omega) ?_;intro v4 w4 i a B;have o:Below W.heap.size W w4:=(xx _ d).grown a (by have:=d.size;simp;omega) (λg e=>by cases e;exact d.size);obtain⟨A4,c4,rfl,C,E,m⟩:=zL.of_grown_own i;rw [<-sE] at m)
  |(go_simp;go_at_call 103;refine(af.o _ (by first|exact G|exact H)).mono ?_;rintro e w3 ⟨v3,rfl,j,s⟩;obtain⟨A3,c3,rfl,hc3a,hc3b,K⟩:=zL.of_grown_own j;have d:Below W.heap.size W w3:=(by first|exact G.o.trans (s.mono G.o.size)|exact H.o.trans (s.mono H.o.size)))
  |(go_simp;go_at_call 106;refine(ac.o w4 A4 c4 m C (by unfold maxLen at E;omega)).mono ?_;rintro e w5 ⟨A5,n5,c5,rfl,aa,V,I⟩;have F:Below W.heap.size W w5:=zc o V;have u:=zg F t;have hc1:=u.cell 0;have Y:=u.frozen 0))
 all_goals
  have hs5:=o.size
  have p4:xp w5 (w.heap.size+1) (.slice none 0 0):=⟨_,u⟩
  have r4:=(p4.set_ (.slice A5 n5 c5)).cell
  have U:=zc hB F
  have HG : zd (wh w X (.returned (.agg #[.slice A5 n5 c5])) (w5.setCell ⟨w.heap.size + 1,0,none⟩ (.slice A5 n5 c5))) :=
   Zj aa U (by show _<=_;simp) (λad e=>by have:=I ad e;show ad.block≠_;simp;omega) (λad e=>by have:=I ad e;omega) _
  clear aa I u p4 U F V o m i a B K j s d
  go_wp2
  refine bodyPost_ret (v:=.agg #[.slice A5 n5 c5]) (by simp [results,results157,go_sem,r4]) rfl ?_
  exact HG.o
theorem Wl {a b:Nat}(ha:a%2=1):∀k,Nat.gcd (2^k*b) a=Nat.gcd b a
 |0=>by rw [XM,yP]
 |k+1=>by
   have h:=gM (p:=2^(k+1)*b) (q:=a) (by rw [qO,qB (2^k) 2,qH];exact Nat.mul_mod_right _ _) za;rw [<-h,qO,qB (2^k) 2,qH,XT _ zf];exact Wl ha k
theorem T5 (h:x≠0):2^wD x*wZ x=x:=by
 rcases sD x with⟨e,_⟩|⟨m,hm⟩
 ·exact absurd e h
 ·unfold wZ;exact YH ⟨2*m+1,hm⟩
theorem qw {y:Nat}(hx:x≠0)(hy:y≠0):2^min (wD x) (wD y)*Nat.gcd (wZ x) (wZ y)=Nat.gcd x y:=by
 have ex:=T5 hx;have ey:=T5 hy;have ox:=cH hx;have oy:=cH hy;obtain⟨s,hs⟩:∃s,wD x=s:=⟨_,rfl⟩;obtain⟨t,ht⟩:∃s,wD y=s:=⟨_,rfl⟩;rw [hs] at ex⊢;rw [ht] at ey⊢;rcases Nat.le_total s t with h|h
 ·obtain⟨d,rfl⟩:∃d,t=s+d:=⟨t - s,za⟩;rw [xG h]
  conv=>rhs;rw [<-ex,<-ey,xU,qH,Nat.gcd_mul_left,XN,Wl ox,XN]
 ·obtain⟨d,rfl⟩:∃d,s=t+d:=⟨s - t,za⟩;rw [Nat.min_eq_right h]
  conv=>rhs;rw [<-ex,<-ey,xU,qH,Nat.gcd_mul_left,Wl oy]
theorem Uq (h:(dg 18446744073709551616 x).length=n):wD x<=64*n:=by
 rcases sD x with⟨_,e⟩|⟨m,hm⟩
 ·omega
 ·have h1:=yv (b:=18446744073709551616) zf x;rw [h,show(18446744073709551616:Nat)=2^64 from rfl,<-yL] at h1;have h2:2^wD x<=x:=by
   conv=>rhs;rw [hm]
   exact Nat.le_mul_of_pos_right _ za
  rcases xW (64*n) (wD x) with h3|h3
  ·have:=qG (n:=2) zf (QK h3);omega
  ·exact h3
theorem qv (x y:Nat)(A D:ze)(n m c d:Nat)(w:World)(hA:zo w x A n c)(hD:zo w y D m d)(hn:n<=1073741824)(hm:m<=1073741824)(hT:zu w):
  Calls prog 143 #[.agg #[.slice A n c],.agg #[.slice D m d]] w (oU w (Nat.gcd x y)):=by
 obtain⟨G,hG⟩:∃g,Nat.gcd x y=g:=⟨_,rfl⟩;rw [hG];have HG:=zb hG;clear hG;have E:=zb hA.len;have F:=zb hD.len;obtain⟨ux,bx,HU,hu⟩:∃(ux:Nat) (bx:Bool),zd (∀w',Below w.heap.size w w'->Calls prog 117 #[.agg #[.slice A n c]] w' λe ab=>e=.returned (.tuple #[.int .u64 ux,.bool bx])/\Below w'.heap.size w' ab)/\((n<=1/\bx=true/\ux=wd x 0)\/(1<n/\bx=false)):=by
  by_cases h:n<=1
  ·exact⟨_,_,λw' hb=>dH x A n c w' (hA.below hb) h,.inl ⟨h,rfl,rfl⟩⟩
  ·exact⟨0,_,λw' hb=>dJ A n c w' za,.inr ⟨za,rfl⟩⟩
 obtain⟨uy,bY,HV,hv⟩:∃(ux:Nat) (bx:Bool),zd (∀w',Below w.heap.size w w'->Calls prog 117 #[.agg #[.slice D m d]] w' λe ab=>e=.returned (.tuple #[.int .u64 ux,.bool bx])/\Below w'.heap.size w' ab)/\((m<=1/\bx=true/\ux=wd y 0)\/(1<m/\bx=false)):=by
  by_cases h:m<=1
  ·exact⟨_,_,λw' hb=>dH y D m d w' (hD.below hb) h,.inl ⟨h,rfl,rfl⟩⟩
  ·exact⟨0,_,λw' hb=>dJ D m d w' za,.inr ⟨za,rfl⟩⟩
 go_enter func143,ntmps143;go_wp2_with fail;obtain⟨b1,b2,b3,b4,b5⟩:=yF w 50 50 50 #[.slice A n c] #[.slice D m d] #[.slice none 0 0];generalize hW:((w.alloc (.cells #[.slice A n c] 50)).alloc (.cells #[.slice D m d] 50)).alloc (.cells #[.slice none 0 0] 50)=W0 at*;obtain⟨p,hp⟩:∃p,w.heap.size=p:=⟨_,rfl⟩;have hpw:w.heap.size<=p:=za;have g1:W0.cell? ⟨p,0,none⟩=some (.slice A n c):=by rw [<-hp];exact b2.cell 0
 have g2:W0.cell? ⟨p+1,0,none⟩=some (.slice D m d):=by rw [<-hp];exact b3.cell 0
 have J:zd (xp W0 (p+1+1) (.slice none 0 0)):=by rw [<-hp];exact b4.one
 have HB:=zb b1;have B:=zb (hA.below b1);have C:=zb (hD.below b1);have N:=zb (hT.on b1);refine(HU.o _ b1).mono ?_;rw [hp];clear hp hW b2 b3 b4 b5 hA hD hT b1;rintro e w1 ⟨rfl,hb⟩;obtain⟨g1,g2⟩:=xl hb g1 g2;have V:=hb;clear hb;go_wp2_with fail;refine(HV.o _ (zc HB.o V)).mono ?_;rintro e w2 ⟨rfl,hb⟩;obtain⟨g1,g2⟩:=xl hb g1 g2;have H:=zc V hb;clear hb V HU HV;by_cases hboth:n<=1/\m<=1
 ·obtain⟨h1,h2⟩:=hboth;rcases hu with⟨_,rfl,hux⟩|⟨h,_⟩
  ·rcases hv with⟨_,rfl,huy⟩|⟨h,_⟩
   ·have lx:x<18446744073709551616:=by
     have h:=yv (b:=18446744073709551616) zf x;exact qJ h (by rw [E.o];exact qG zf h1)
    have ly:y<18446744073709551616:=by
     have h:=yv (b:=18446744073709551616) zf y;exact qJ h (by rw [F.o];exact qG zf h2)
    have ex:ux=x:=by rw [hux];unfold wd;rw [XM,Nat.div_one,qS lx]
    have ey:uy=y:=by rw [huy];unfold wd;rw [XM,Nat.div_one,qS ly]
    subst ex ey;have GW:=zb (λw'=>UV ux uy w' lx ly);rw [HG.o] at GW;have lG:zd (G<18446744073709551616):=by
     show _<_;rw [<-HG.o];rcases xQ ux with e|e
     ·rw [e,XI];exact ly
     ·exact QO (Nat.gcd_le_left _ e) lx
    clear hux huy lx ly E F;go_wp2_with fail;refine(GW.o _).mono ?_;rintro e w3 ⟨rfl,hb⟩;have j:=zc H hb;have NO:=zb (fun(W:World)=>show Calls prog 106 #[.slice (some ⟨W.heap.size,0,none⟩) 1 1] (W.alloc (.cells #[.int .u64 (G:Int)] 125)) (wh (W.alloc (.cells #[.int .u64 (G:Int)] 125)) G) from by
     have h:=tK (some ⟨W.heap.size,0,none⟩) 1 1 [G] (W.alloc (.cells #[.int .u64 (G:Int)] 125)) (SV W _ G).reads (by intro d hd;simp at hd;have:=lG.o;omega) (qX _) za za;rw [show dv 18446744073709551616 [G]=G by simp [dv]] at h;exact h)
    clear hb H;go_wp2_with fail;refine(NO.o _).mono ?_;rintro e w5 ⟨A5,n5,c5,rfl,u,hb,_⟩;have i:=zc (xx _ j) hb;clear j hb;have k5:=J.o.keep (w':=w5) i;have f5:=k5.frozen;have e5:=k5.cell;have r5:=(k5.set_ (.slice A5 n5 c5)).cell;have HE:zd (oU w G (.returned (.agg #[.slice A5 n5 c5])) (w5.setCell ⟨p+1+1,0,none⟩ (.slice A5 n5 c5))):=⟨_,_,_,rfl,wB u k5 _,(zc HB.o i).setCell (p:=⟨p+1+1,0,none⟩) (by show w.heap.size<=p+1+1;omega) _⟩;clear k5 u i;go_wp2;refine bodyPost_ret (v:=.agg #[.slice A5 n5 c5]) (by simp [results,results143,go_sem,r5]) rfl ?_;exact HE.o
   ·omega
  ·omega
 ·by_cases hx:x=0
  ·have ai:=zj W0 (λw' h=>show Calls _ _ _ _ (rh w' (dg 18446744073709551616 G).length (zt .u64 (dg 18446744073709551616 G))) from by
    have e:y=G:=by rw [<-HG.o,hx,XI]
    rw [<-e];exact ji y D m d w' (C.o.below h) za)
   have ag:zd ((dg 18446744073709551616 G).length<=1099511627776):=by
    show _<=_;rw [<-HG.o,hx,XI,F.o];omega
   have ZA:=zb (iP hx (B.o.below H));have O:bx=true/\bY=false\/bx=false/\bY=true\/bx=false/\bY=false:=by
    rcases hu with⟨_,rfl,_⟩|⟨_,rfl⟩<;>rcases hv with⟨_,rfl,_⟩|⟨_,rfl⟩<;>first|(exfalso;omega)|simp
   clear hu hv hboth E F B C;rcases O with⟨rfl,rfl⟩|⟨rfl,rfl⟩|⟨rfl,rfl⟩
   all_goals
    go_wp2_with fail
    refine ZA.o.mono ?_
    rintro e w3 ⟨rfl,hb⟩
    have g2:=zq hb g2
    have j:=zc H hb
    clear hb
    go_wp2_with fail
    refine(ai.o _ j).mono ?_
    rintro e w4 ⟨A4,c4,rfl,R,P,⟨Q,_⟩,hb⟩
    have K:=zc j hb
    have NO:=tK A4 _ c4 (dg 18446744073709551616 G) w4 R (uA zf _) P Q ag.o
    rw [vw zf] at NO
    have M:=zb NO
    obtain⟨len,I⟩:∃len,(dg 18446744073709551616 G).length=len:=⟨_,rfl⟩
    rw [I] at M⊢
    clear NO R P Q hb I
    go_wp2_with fail
    refine M.o.mono ?_
    rintro e w5 ⟨A5,n5,c5,rfl,u,hb,_⟩
    have i:=zc K hb
    have k5:=J.o.keep (w':=w5) i
    have f5:=k5.frozen
    have e5:=k5.cell
    have r5:=(k5.set_ (.slice A5 n5 c5)).cell
    have HE:zd (oU w G (.returned (.agg #[.slice A5 n5 c5])) (w5.setCell ⟨p+1+1,0,none⟩ (.slice A5 n5 c5))):=⟨_,_,_,rfl,wB u k5 _,(zc HB.o i).setCell (p:=⟨p+1+1,0,none⟩) (by show w.heap.size<=p+1+1;omega) _⟩
    clear k5 u i
    go_wp2
    refine bodyPost_ret (v:=.agg #[.slice A5 n5 c5]) (by simp [results,results143,go_sem,r5]) rfl ?_
    exact HE.o
  ·by_cases hy:y=0
   ·have ah:=zj W0 (λw' h=>show Calls _ _ _ _ (rh w' (dg 18446744073709551616 G).length (zt .u64 (dg 18446744073709551616 G))) from by
     have e:x=G:=by rw [<-HG.o,hy,Nat.gcd_zero_right]
     rw [<-e];exact ji x A n c w' (B.o.below h) za)
    have af:zd ((dg 18446744073709551616 G).length<=1099511627776):=by
     show _<=_;rw [<-HG.o,hy,Nat.gcd_zero_right,E.o];omega
    have ZA:=zb (ju hx (B.o.below H));have ZB:=zj W0 (λw' h=>iP hy (C.o.below h));have O:bx=true/\bY=false\/bx=false/\bY=true\/bx=false/\bY=false:=by
     rcases hu with⟨_,rfl,_⟩|⟨_,rfl⟩<;>rcases hv with⟨_,rfl,_⟩|⟨_,rfl⟩<;>first|(exfalso;omega)|simp
    clear hu hv hboth E F B C;rcases O with⟨rfl,rfl⟩|⟨rfl,rfl⟩|⟨rfl,rfl⟩
    all_goals
     go_wp2_with fail
     refine ZA.o.mono ?_
     rintro e aj ⟨rfl,hb⟩
     obtain⟨g1,g2⟩:=xl hb g1 g2
     have o:=zc H hb
     clear hb
     go_wp2_with fail
     refine(ZB.o _ o).mono ?_
     rintro e w3 ⟨rfl,hb⟩
     have g1:=zq hb g1
     have j:=zc o hb
     clear hb o
     go_wp2_with fail
     refine(ah.o _ j).mono ?_
     rintro e w4 ⟨A4,c4,rfl,R,P,⟨Q,_⟩,hb⟩
     have K:=zc j hb
     have NO:=tK A4 _ c4 (dg 18446744073709551616 G) w4 R (uA zf _) P Q af.o
     rw [vw zf] at NO
     have M:=zb NO
     obtain⟨len,I⟩:∃len,(dg 18446744073709551616 G).length=len:=⟨_,rfl⟩
     rw [I] at M⊢
     clear NO R P Q hb I
     go_wp2_with fail
     refine M.o.mono ?_
     rintro e w5 ⟨A5,n5,c5,rfl,u,hb,_⟩
     have i:=zc K hb
     have k5:=J.o.keep (w':=w5) i
     have f5:=k5.frozen
     have e5:=k5.cell
     have r5:=(k5.set_ (.slice A5 n5 c5)).cell
     have HE:zd (oU w G (.returned (.agg #[.slice A5 n5 c5])) (w5.setCell ⟨p+1+1,0,none⟩ (.slice A5 n5 c5))):=⟨_,_,_,rfl,wB u k5 _,(zc HB.o i).setCell (p:=⟨p+1+1,0,none⟩) (by show w.heap.size<=p+1+1;omega) _⟩
     clear k5 u i
     go_wp2
     refine bodyPost_ret (v:=.agg #[.slice A5 n5 c5]) (by simp [results,results143,go_sem,r5]) rfl ?_
     exact HE.o
   ·have ZA:=zb (ju hx (B.o.below H));have ZB:=zj W0 (λw' h=>ju hy (C.o.below h));have PA:=zj W0 (λw' h=>aD x A n c w' (B.o.below h) za (N.o.on h));have PB:=zj W0 (λw' h=>aD y D m d w' (C.o.below h) za (N.o.on h));have TA:=zj W0 (λw' h=>Xg x A n c w' (B.o.below h) za (N.o.on h));have TB:=zj W0 (λw' h=>Xg y D m d w' (C.o.below h) za (N.o.on h));have tx:=Uq E.o;have ty:=Uq F.o;have lx:=sf (b:=18446744073709551616) zf (Xz x);have ly:=sf (b:=18446744073709551616) zf (Xz y);rw [E.o] at lx;rw [F.o] at ly;have ox:=cH hx;have oy:=cH hy;have U:zd (2^min (wD x) (wD y)*Nat.gcd (wZ x) (wZ y)=G):=by show _=_;rw [qw hx hy];exact HG.o
    have lg:(dg 18446744073709551616 (Nat.gcd (wZ x) (wZ y))).length<=n:=qD (sf zf (Nat.gcd_le_left _ za)) lx;obtain⟨s,hs⟩:∃s,wD x=s:=⟨_,rfl⟩;obtain⟨t,ht⟩:∃s,wD y=s:=⟨_,rfl⟩;obtain⟨X,hX⟩:∃s,wZ x=s:=⟨_,rfl⟩;obtain⟨Y,hY⟩:∃s,wZ y=s:=⟨_,rfl⟩;rw [hs] at TA tx;rw [ht] at TB ty;rw [hX] at PA lx ox;rw [hY] at PB ly oy;rw [hs,ht,hX,hY] at U;rw [hX,hY] at lg;obtain⟨g,hg⟩:∃s,Nat.gcd X Y=s:=⟨_,rfl⟩;obtain⟨k,hk⟩:∃z,min s t=z:=⟨_,rfl⟩;rw [hg,hk] at U;rw [hg] at lg;have ad:k<=1099511627776:=za;have q1:(if (t:Int)<(s:Int) then(t:Int) else(s:Int))=(k:Int):=by split<;>omega
    have q6:(if t<s then(t:Int) else(s:Int))=(k:Int):=by split<;>omega
    have q2:(if t<s then t else s)=k:=by split<;>omega
    have q3:(if (s:Int)<=(t:Int) then(s:Int) else(t:Int))=(k:Int):=by split<;>omega
    have q4:(if (s:Int)<(t:Int) then(s:Int) else(t:Int))=(k:Int):=by split<;>omega
    have q5:(if s<t then s else t)=k:=by split<;>omega
    have OO:=zb (fun (w' : World) (A1 A2 : ze) (n1 n2 c1 c2 : Nat) (h1 : zo w' X A1 n1 c1) (h2 : zo w' Y A2 n2 c2) (h : Below W0.heap.size W0 w') => show Calls prog 158 #[.agg #[.slice A1 n1 c1],.agg #[.slice A2 n2 c2]] w' (oU w' g) from
     hg▸mn X Y A1 A2 n1 n2 c1 c2 w' h1 h2 (by rw [<-h1.len];omega) (by rw [<-h2.len];omega) ox oy (N.o.on h))
    have RA:=zb (fun (w' : World) (A1 : ze) (n1 c1 : Nat) (h1 : zo w' g A1 n1 c1) => show Calls prog 157 #[.agg #[.slice A1 n1 c1],.int .i64 (k : Int)] w' (wh w' G) from
     U.o▸Pk g k A1 n1 c1 w' h1 (by rw [<-h1.len];omega) ad)
    have O:bx=true/\bY=false\/bx=false/\bY=true\/bx=false/\bY=false:=by
     rcases hu with⟨_,rfl,_⟩|⟨_,rfl⟩<;>rcases hv with⟨_,rfl,_⟩|⟨_,rfl⟩<;>first|(exfalso;omega)|simp
    clear hu hv hboth E F B C hs ht hX hY hg hk tx ty lx ly ox oy lg ad;have f3:=J.o.frozen;have lt3:=J.o.lt;rcases O with⟨rfl,rfl⟩|⟨rfl,rfl⟩|⟨rfl,rfl⟩
    all_goals
     go_wp2_with fail
     refine ZA.o.mono ?_
     rintro e aj ⟨rfl,hb⟩
     obtain⟨g1,g2⟩:=xl hb g1 g2
     have o:=zc H hb
     clear hb
     go_wp2_with fail
     refine(ZB.o _ o).mono ?_
     rintro e w3 ⟨rfl,hb⟩
     obtain⟨g1,g2⟩:=xl hb g1 g2
     have j:=zc o hb
     clear hb o
     have j:=j.drew
     have g1:w3.drew.cell? ⟨p,0,none⟩=some (.slice A n c):=g1
     have g2:w3.drew.cell? ⟨p+1,0,none⟩=some (.slice D m d):=g2
     go_wp2_with fail
     go_region_held3 (fun w' => w'.cell? ⟨p,0,none⟩ = some (.slice A n c) ∧ w'.cell? ⟨p + 1,0,none⟩ = some (.slice D m d))
      (first|(exact⟨g1,g2⟩)|(go_split_ands;(repeat' apply And.intro);all_goals (first|exact zl|exact zq a zl|exact zW _ (by show p≠p+1+1;omega) zl|exact zW _ (by show p+1≠p+1+1;omega) zl)))
      (first
        |(go_at_call 159;(with_reducible refine(PA.o _ j).mono ?_);rintro e w4 ⟨A4,n4,c4,rfl,T,a,_⟩;have K:=zc j a)
        |(go_at_call 159;(with_reducible refine(PB.o _ K).mono ?_);rintro e w5 ⟨A5,n5,c5,rfl,u,a,_⟩;have i:=zc K a;have T:=T.below a)
        |(go_at_call 158;(with_reducible refine(OO.o w5 A4 A5 n4 n5 c4 c5 T u i).mono ?_);rintro e w6 ⟨A6,n6,c6,rfl,L,a⟩;have Z:=zc i a)
        |(go_at_call 160;(with_reducible refine(TA.o _ Z).mono ?_);rintro e w7 ⟨rfl,a⟩;have aa:=zc Z a;have L:=L.below a)
        |(go_at_call 160;(with_reducible refine(TB.o _ aa).mono ?_);rintro e w8 ⟨rfl,a⟩;have ac:=zc aa a;have L:=L.below a)
        |(go_at_call 157;(with_reducible refine(RA.o w8 A6 n6 c6 L).mono ?_);rintro e w9 ⟨A9,n9,c9,rfl,ae,a,_⟩;have S:=zc ac a;have k9:=J.o.keep S;have f9:=k9.frozen;have e9:=k9.cell))
     clear f9 e9 k9 a L u T ac aa Z i K
     have k5:=J.o.keep (w':=w9) S
     have f5:=k5.frozen
     have e5:=k5.cell
     have r5:=(k5.set_ (.slice A9 n9 c9)).cell
     have HE:zd (oU w G (.returned (.agg #[.slice A9 n9 c9])) (w9.setCell ⟨p+1+1,0,none⟩ (.slice A9 n9 c9))):=⟨_,_,_,rfl,wB ae k5 _,(zc HB.o S).setCell (p:=⟨p+1+1,0,none⟩) (by show w.heap.size<=p+1+1;omega) _⟩
     clear k5 ae S
     go_wp2
     refine bodyPost_ret (v:=.agg #[.slice A9 n9 c9]) (by simp [results,results143,go_sem,r5]) rfl ?_
     exact HE.o
