/- What this claim leans on. -/
import Derived.Test.YtdfdjfiognhbgaaGreatDoorDBunG
import Derived.Test.YtdfdjfiognhbgaaGreatDoorDBunH
set_option linter.unusedVariables false
set_option linter.unusedSimpArgs false
namespace Go.Proofs.YtdfdjfiognhbgaaGreatDoor
open Go Go.RowKit Go.Proofs.Tryz
set_option maxHeartbeats 16000000
set_option maxRecDepth 100000
variable {L:List Nat}{G X Y g n x:Nat}{t:TypeId}{w:World}
theorem zF.shrink {cap s:Nat}(h:zF w t g cap n L)(hs:s<=n):zF w t g cap s (L.take s):=by
 obtain⟨a,h0,h1,h2,h3,h4,h5⟩:=h;refine⟨a,h0,zb,h2,h3,by rw [qB];omega,?_⟩;have e:=congrArg (List.take s) h5;rw [List.take_take,xZ hs] at e;rw [e];unfold zq;rw [List.map_take]
theorem dC {w':World}{b cap:Nat}(h:yu g w w')(hr:zF w t b cap n L)(c:b≠g):zF w' t b cap n L:=by
 obtain⟨a,h0,h1⟩:=hr;exact⟨a,h.blk h0 c,h1⟩
theorem Vr (h:L.length=1):L.getD 0 0=dv 18446744073709551616 L:=by
 match L,h with
 |[a],_=>simp [dv]
theorem U4 (w:World)(t:TypeId)(x:Nat):zF (w.alloc (.cells #[.int .u64 (x:Int)] t)) t w.heap.size 1 1 [x]:=
 ⟨_,zh.new w t _,qY _,by unfold maxLen;omega,rfl,rfl,rfl⟩
theorem WZ (h0:X - Y≠0)(a:Y<=X)(hG:Nat.gcd X Y=G)(hY:Y%2=1):
  (X - Y) / 2^wg (X - Y)%2=1/\Nat.gcd ((X - Y) / 2^wg (X - Y)) Y=G/\(X - Y) / 2^wg (X - Y)<=X - Y/\(X - Y) / 2^wg (X - Y)+Y<X+Y:=by
 rcases tF (X - Y) with⟨h,_⟩|⟨m,hm⟩
 ·exact absurd h h0
 ·have h1:=dJ hm;have h3:(X - Y) / 2^wg (X - Y)<=X - Y:=QS _ _;have h2:∀t x:Nat,x=2^t*(2*m+1)->Nat.gcd (x / 2^t) Y=Nat.gcd x Y:=λt=>by
   induction t with
   |zero=>intro x _;rw [XB,Nat.div_one]
   |succ t ih=>
     intro x hx;have e:x / 2=2^t*(2*m+1):=by rw [hx,qP,qS (2^t) 2,qG,XM _ zg]
     rw [qP,qS (2^t) 2,<-xD,ih _ e];exact ip (by rw [hx,qP,qS (2^t) 2,qG];exact Nat.mul_mod_right _ _) zb
  refine⟨h1,?_,h3,zb⟩;rw [h2 _ _ hm,fz a];exact hG
def eU (w0:World)(G:Nat)(e:Ending)(w':World):Prop:=
 ∃(A:ze) (m c:Nat) (L:List Nat),e=.returned (.slice A m c)/\zH w' w'.heap.size 1 A m (zq .u64 L)/\zD 18446744073709551616 L/\dv 18446744073709551616 L=G/\m<=c/\c<=maxLen/\m<=1099511627776/\Below w0.heap.size w0 w'
structure u3 (w0 wr:World)(n G S:Nat)(tya tyb:TypeId)(ga gb ca cb s:Nat)(La Lb:List Nat):Prop where
 ra:zF wr tya ga ca s La
 rb:zF wr tyb gb cb s Lb
 ne:ga≠gb
 ha:w0.heap.size<=ga
 hb:w0.heap.size<=gb
 da:zD 18446744073709551616 La
 db:zD 18446744073709551616 Lb
 oa:dv 18446744073709551616 La%2=1
 ob:dv 18446744073709551616 Lb%2=1
 gcd:Nat.gcd (dv 18446744073709551616 La) (dv 18446744073709551616 Lb)=G
 sum:dv 18446744073709551616 La+dv 18446744073709551616 Lb=S
 le:s<=n
 below:Below w0.heap.size w0 wr
theorem rr (w0:World)(g i:TypeId)(ga gb ca cb n G:Nat)(La Lb:List Nat)(w:World)(hI:u3 w0 w n G (dv 18446744073709551616 La+dv 18446744073709551616 Lb) g i ga gb ca cb n La Lb)(hn:n<=1099511627776)(hT:zu w0):
  Calls prog 188 #[.slice (some ⟨ga,0,none⟩) n ca,.slice (some ⟨gb,0,none⟩) n cb] w (eU w0 G):=by
 have HT:=za hT;have HI:=za hI;clear hI hT;go_enter func188,ntmps188;go_wp2_with fail
 go_loopg [0,1] (dv 18446744073709551616 La+dv 18446744073709551616 Lb+1) (λgg u0 u1 wr=>∃(g i:TypeId) (ga gb ca cb s S:Nat) (La Lb:List Nat),u0=.slice (some ⟨ga,0,none⟩) s ca/\u1=.slice (some ⟨gb,0,none⟩) s cb/\u3 w0 wr n G S g i ga gb ca cb s La Lb/\S<gg)
 case atStart=>exact⟨_,_,_,_,_,_,_,_,_,_,rfl,rfl,HI.o,zb⟩
 case round=>
  clear HI;obtain⟨g,i,ga,gb,ca,cb,s0,S,y,z,rfl,rfl,⟨ra,rb,Q,O,P,A,B,oa,ob,hG,hS,hsn0,hB⟩,hgg⟩:=hrel;have SH:=za (Sl g i ga gb ca cb s0 y z wr ra rb A B zb zb);have m:=za ra;have a:=za rb;have HB:=za hB;clear ra rb hB;go_wp2_with fail;refine SH.o.mono ?_;rintro e w2 ⟨s,hs1,T,rfl,ea,eb,hb⟩;have ra:=(m.o.keep hb).shrink T;have rb:=(a.o.keep hb).shrink T;have hB:=zc HB.o hb;have da:=A.take s;have db:=B.take s;obtain⟨La,J⟩:∃L,y.take s=L:=⟨_,rfl⟩;obtain⟨Lb,K⟩:∃L,z.take s=L:=⟨_,rfl⟩;rw [J] at ra da ea;rw [K] at rb db eb;obtain⟨Xa,M⟩:∃X,dv 18446744073709551616 y=X:=⟨_,rfl⟩;obtain⟨Xb,N⟩:∃X,dv 18446744073709551616 z=X:=⟨_,rfl⟩;rw [M] at ea oa hG hS;rw [N] at eb ob hG hS;have R:s<=n:=zb;have hs:s<=1099511627776:=zb;have HG:=za hG;have v:=za oa;have I:=za ob;clear J K M N SH m a HB hb A B hG;by_cases h1:s=1
  ·subst h1;have k1:=ra.cell 0 zb;have k2:=rb.cell 0 zb;rw [Vr ra.len,ea] at k1;rw [Vr rb.len,eb] at k2;have l1:=vg da;have l2:=vg db;rw [ra.len,ea] at l1;rw [rb.len,eb] at l2;have W:=λw'=>Vc Xa Xb w' (by simpa using l1) (by simpa using l2);rw [HG.o] at W;have V:=za (show Xa<18446744073709551616 by simpa using l1);have HW:=za W;have Y:=hB.drew;have aa:w2.drew.cell? ⟨ga,0,none⟩=some (.int .u64 (Xa:Int)):=k1;have ab:w2.drew.cell? ⟨gb,0,none⟩=some (.int .u64 (Xb:Int)):=k2;clear W ra rb l1 l2 oa ob hB ea eb hS;go_wp2_with fail
   go_region_held3 (fun w' => w'.cell? ⟨ga,0,none⟩ = some (.int .u64 (Xa : Int)) ∧ w'.cell? ⟨gb,0,none⟩ = some (.int .u64 (Xb : Int)) ∧ Below w0.heap.size w0 w')
    (first|(exact⟨aa,ab,Y⟩)|(go_split_ands;(repeat' apply And.intro);all_goals (first|exact zk|exact zc zk hb|exact zt hb zk|with_reducible exact xk _ zk|with_reducible exact xt _ zk)))
    (first|(go_at_call 176;(with_reducible refine(HW.o _).mono ?_);rintro e w' ⟨rfl,hb⟩))
   rename_i hH
   have HE:zd (∀w':World,Below w0.heap.size w0 (w'.alloc (.cells #[.int .u64 (G:Int)] 132))->eU w0 G (.returned (.slice (some ⟨w'.heap.size,0,none⟩) 1 1)) (w'.alloc (.cells #[.int .u64 (G:Int)] 132))):=λw' h=>by
    have hG1:G<18446744073709551616:=by
     have e:=HG.o;have:=Nat.gcd_le_left Xb (show 0<Xa by have:=v.o;omega);have l:Xa<18446744073709551616:=V.o;omega
    exact⟨_,_,_,[G],rfl,(U4 w' _ G).reads,by intro d hd;simp at hd;omega,by simp [dv],qY _,by unfold maxLen;omega,zb,h⟩
   go_wp2;go_ret;exact HE.o _ hH.2.2
  ·have hs1':((s:Int)==1)=false:=beq_eq_false_iff_ne.2 zb;have BL:=Pf g i ga gb ca cb s La Lb w2 ra rb da db hs;rw [ea,eb] at BL;have m:=za ra;have a:=za rb;have HB:=za hB;have F:=za BL;have j:=hB.size;clear ra rb hB BL;go_wp2_with fail;refine F.o.mono ?_;rintro e ac ⟨rfl,hb⟩;have ra:=m.o.keep hb;have rb:=a.o.keep hb;have hB:=zc HB.o hb;clear m a HB F hb j;obtain⟨w2,Z⟩:∃x,x=ac:=⟨_,rfl⟩;subst Z;have C:=Q;have D:=Q.symm;have U:=HG;have H:zd (Nat.gcd Xb Xa=G):=by show _=_;rw [XC];exact HG.o
   by_cases hlt:Xa<Xb
   ·have hd:decide (Xa<Xb)=true:=by simpa using hlt
    have E:Xa<=Xb:=zb;have HG:=H;have o:=za (Yr i g gb ga cb ca s Lb La w2 rb ra zb db da (by rw [eb,ea];omega) hs);have a:=za ra;have c:=za hB;have j:=hB.size;clear rb ra hB;go_wp2_with fail;refine o.o.mono ?_;rintro e w3 ⟨v3,L3,rfl,r3,d3,e3,o3⟩;have ra:=dC o3 a.o zb;have hB:=o3.below c.o j zb;have t:=HT.o.on hB;rw [eb,ea] at e3;have DR:=Vz i gb cb s L3 w3 r3 d3 hs t;rw [e3] at DR;have k:=za DR;have a:=za ra;have c:=za hB;have u:=hB.size;clear r3 ra hB o3 t DR o;go_wp2_with fail;refine k.o.mono ?_;rintro e w4 (⟨h0,rfl,rfl⟩|⟨h0,L4,rfl,r4,d4,e4,o4⟩)
    ·have hG:zd (Xa=G):=by
      have h:=HG.o;rw [show Xb=Xa from by omega,Nat.gcd_self] at h;exact h
     have HE:zd (eU w0 G (.returned (.slice (some ⟨ga,0,none⟩) s ca)) w3):=⟨_,_,_,La,rfl,a.o.reads,da,by rw [ea];exact hG.o,a.o.room.1,a.o.room.2,zb,c.o⟩;clear k hG a c;go_wp2;go_ret;exact HE.o
    ·have ra:=dC o4 a.o zb;have hB:=o4.below c.o u zb;have hD:=WZ h0 E H.o v.o;rw [<-e4] at hD;obtain⟨g1,g2,g3,g4⟩:=hD;have HE:zd (u3 w0 w4 n G (dv 18446744073709551616 L4+Xa) i g gb ga cb ca s L4 La):=⟨r4,ra,D,P,O,d4,da,g1,by rw [ea];exact v.o,by rw [ea];exact g2,by rw [ea],R,hB⟩;clear k r4 ra hB o4 e4 a c d4;go_wp2;go_roundg (dv 18446744073709551616 L4+Xa+1)
     case measure=>omega
     case rel=>exact⟨_,_,_,_,_,_,_,_,_,_,rfl,rfl,HE.o,zb⟩
   ·have hd:decide (Xa<Xb)=false:=by simpa using hlt
    have E:Xb<=Xa:=zb;have o:=za (Yr g i ga gb ca cb s La Lb w2 ra rb zb da db (by rw [ea,eb];omega) hs);have a:=za rb;have c:=za hB;have j:=hB.size;clear ra rb hB;go_wp2_with fail;refine o.o.mono ?_;rintro e w3 ⟨v3,L3,rfl,r3,d3,e3,o3⟩;have rb:=dC o3 a.o zb;have hB:=o3.below c.o j zb;have t:=HT.o.on hB;rw [ea,eb] at e3;have DR:=Vz g ga ca s L3 w3 r3 d3 hs t;rw [e3] at DR;have k:=za DR;have a:=za rb;have c:=za hB;have u:=hB.size;clear r3 rb hB o3 t DR o;go_wp2_with fail;refine k.o.mono ?_;rintro e w4 (⟨h0,rfl,rfl⟩|⟨h0,L4,rfl,r4,d4,e4,o4⟩)
    ·have hG:zd (Xb=G):=by
      have h:=HG.o;rw [show Xa=Xb from by omega,Nat.gcd_self] at h;exact h
     have HE:zd (eU w0 G (.returned (.slice (some ⟨gb,0,none⟩) s cb)) w3):=⟨_,_,_,Lb,rfl,a.o.reads,db,by rw [eb];exact hG.o,a.o.room.1,a.o.room.2,zb,c.o⟩;clear k hG a c;go_wp2;go_ret;exact HE.o
    ·have rb:=dC o4 a.o zb;have hB:=o4.below c.o u zb;have hD:=WZ h0 E U.o I.o;rw [<-e4] at hD;obtain⟨g1,g2,g3,g4⟩:=hD;have HE:zd (u3 w0 w4 n G (dv 18446744073709551616 L4+Xb) g i ga gb ca cb s L4 Lb):=⟨r4,rb,C,O,P,d4,db,g1,by rw [eb];exact I.o,by rw [eb];exact g2,by rw [eb],R,hB⟩;clear k r4 rb hB o4 e4 a c d4;go_wp2;go_roundg (dv 18446744073709551616 L4+Xb+1)
     case measure=>omega
     case rel=>exact⟨_,_,_,_,_,_,_,_,_,_,rfl,rfl,HE.o,zb⟩
def wI (x:Nat):Nat:=x / 2^wg x
theorem fU (x:Nat)(A:ze)(n c:Nat)(w:World)(hA:zn w x A n c)(hn:n<=274877906944)(hT:zu w):
  Calls prog 179 #[.agg #[.slice A n c]] w (xp w (wI x)):=by
 have i:=zj w (λw' hb=>aQ x A n c w' (hA.below hb) zb (hT.on hb));have g:=zj w (λw' hb=>show Calls _ _ _ _ (xp w' (wI x)) from Y5 x (wg x) A n c w' (hA.below hb) zb);obtain⟨t,ht⟩:∃t,wg x=t:=⟨_,rfl⟩;obtain⟨y,hy⟩:∃t,wI x=t:=⟨_,rfl⟩;rw [ht] at i;rw [ht,hy] at g;rw [hy];clear hA hT ht hy;go_enter func179,ntmps179;go_wp2_with fail;obtain⟨hB,b2,b3,b5⟩:=zX w 37 37 #[.slice A n c] #[.slice none 0 0];generalize hW:(w.alloc (.cells #[.slice A n c] 37)).alloc (.cells #[.slice none 0 0] 37)=W0 at*;have g1:W0.cell? ⟨w.heap.size,0,none⟩=some (.slice A n c):=b2.cell 0;clear hW b2 b5;have k:=hB.drew;have g0:W0.drew.cell? ⟨w.heap.size,0,none⟩=some (.slice A n c):=g1;have m:=b3.drew;clear hB g1 b3
 go_region_held3 (fun w' => Below w.heap.size w w' ∧ w'.cell? ⟨w.heap.size,0,none⟩ = some (.slice A n c))
  (first|(exact⟨k,g0⟩)|(go_split_ands;(repeat' apply And.intro);all_goals (first|exact zk|exact zc zk hb|exact zt hb zk|exact zz _ (by show w.heap.size<=w.heap.size+1;omega) zk|exact zR _ (by show w.heap.size≠w.heap.size+1;omega) zk)))
  (first
    |(go_at_call 180;(with_reducible refine(i.o _ (by first|exact zk|exact XV zk)).mono ?_);rintro e w2 ⟨rfl,hb⟩;have d:=zf hb m)
    |(go_at_call 189;(with_reducible refine(g.o _ (by first|exact zk|exact XV zk)).mono ?_);rintro e w3 ⟨A2,n2,c2,rfl,hw,hb,hf⟩;go_split_ands;have a:=zf hb d;have hc1:=a.cell 0;have hf1:=a.frozen 0;have j:Below w.heap.size w w3:=zc zk hb))
 have hsz:=j.size;have hz2:w.heap.size+1<w2.heap.size:=d.lt;have p4:xg w3 (w.heap.size+1) (.slice none 0 0):=⟨_,a⟩;have r4:=(p4.set_ (.slice A2 n2 c2)).cell;have HG : zd (xp w y (.returned (.agg #[.slice A2 n2 c2])) (w3.setCell ⟨w.heap.size + 1,0,none⟩ (.slice A2 n2 c2))) :=
  eQ hw j (by show _<=_;simp) (λad e=>by have:=hf ad e;show ad.block≠_;simp;omega) (λad e=>by have:=hf ad e;omega) _
 clear hw hf a d p4;go_wp2;refine bodyPost_ret (v:=.agg #[.slice A2 n2 c2]) (by simp [results,results179,go_sem,r4]) rfl ?_;exact HG.o
theorem ma {m:Nat}(hY:Y%2=1):∀t x:Nat,x=2^t*(2*m+1)->Nat.gcd (x / 2^t) Y=Nat.gcd x Y:=λt=>by
 induction t with
 |zero=>intro x _;rw [XB,Nat.div_one]
 |succ t ih=>
   intro x hx;have e:x / 2=2^t*(2*m+1):=by rw [hx,qP,qS (2^t) 2,qG,XM _ zg]
   rw [qP,qS (2^t) 2,<-xD,ih _ e];exact ip (by rw [hx,qP,qS (2^t) 2,qG];exact Nat.mul_mod_right _ _) zb
theorem Zo (x:Nat):wI x<=x:=QS _ _
theorem fk (h:x≠0):wI x%2=1:=by
 rcases tF x with⟨e,_⟩|⟨m,hm⟩
 ·exact absurd e h
 ·exact dJ hm
theorem qg (hY:Y%2=1):Nat.gcd (wI x) Y=Nat.gcd x Y:=by
 rcases tF x with⟨e,_⟩|⟨m,hm⟩
 ·rw [e];show Nat.gcd (0 / _) Y=_;rw [Nat.zero_div]
 ·exact ma hY _ _ hm
theorem Up (h0:X%Y≠0)(hG:Nat.gcd X Y=G)(hY:Y%2=1):wI (X%Y)%2=1/\Nat.gcd (wI (X%Y)) Y=G/\wI (X%Y)<=X%Y:=by
 refine⟨fk h0,?_,Zo _⟩;rw [qg hY,<-hG,XC X Y,Nat.gcd_rec Y X]
structure oU (w wr:World)(p G S xa xb:Nat)(Aa Ab:ze)(na ca nb cb:Nat):Prop where
 ka:xg wr p (.slice Aa na ca)
 kb:xg wr (p+1) (.slice Ab nb cb)
 kr:xg wr (p+1+1) (.slice none 0 0)
 wa:zn wr xa Aa na ca
 wb:zn wr xb Ab nb cb
 oa:xa%2=1
 ob:xb%2=1
 gcd:Nat.gcd xa xb=G
 sum:xa+xb=S
 la:na<=1073741824
 lb:nb<=1073741824
 below:Below w.heap.size w wr
theorem nw (x y:Nat)(A D:ze)(n m c d:Nat)(w:World)(hA:zn w x A n c)(hD:zn w y D m d)(hn:n<=1073741824)(hm:m<=1073741824)(hx:x%2=1)(hy:y%2=1)(hT:zu w):
  Calls prog 178 #[.agg #[.slice A n c],.agg #[.slice D m d]] w (pX w (Nat.gcd x y)):=by
 have HT:=za hT;have HA:=za hA;have HD:=za hD;obtain⟨G,hG⟩:∃g,Nat.gcd x y=g:=⟨_,rfl⟩;rw [hG];have V:=za hG;clear hT hA hD hG;go_enter func178,ntmps178;go_wp2_with fail;obtain⟨b1,b2,b3,b4,b5⟩:=yn w 37 37 37 #[.slice A n c] #[.slice D m d] #[.slice none 0 0];generalize hW:((w.alloc (.cells #[.slice A n c] 37)).alloc (.cells #[.slice D m d] 37)).alloc (.cells #[.slice none 0 0] 37)=W0 at*;obtain⟨p,hp⟩:∃p,w.heap.size=p:=⟨_,rfl⟩;have hpw:w.heap.size<=p:=zb;have H0:zd (oU w W0 p G (x+y) x y A D n c m d):=⟨by rw [<-hp];exact b2.one,by rw [<-hp];exact b3.one,by rw [<-hp];exact b4.one,HA.o.below b1,HD.o.below b1,hx,hy,V.o,rfl,hn,hm,b1⟩;rw [hp];clear hp hW b1 b2 b3 b4 b5 HA HD hx hy hn hm V
 go_loopg [5] (x+y+1) (λgg _ wr=>∃(S xa xb:Nat) (Aa Ab:ze) (na ca nb cb:Nat),oU w wr p G S xa xb Aa Ab na ca nb cb/\S<gg)
 case atStart=>exact⟨_,_,_,_,_,_,_,_,_,H0.o,zb⟩
 case round=>
  clear H0;obtain⟨S,xa,xb,Aa,Ab,na,ca,nb,cb,⟨k1,k2,k3,wa,wb,oa,ob,hG,hS,T,U,a⟩,hgg⟩:=hrel;have HG:=za hG;have X:=HG;have Y:zd (Nat.gcd xb xa=G):=by show _=_;rw [XC];exact hG
  have F:=za oa;have J:=za ob;have LA:=za (λw'=>vN xa Aa na ca w');have LB:=za (λw'=>vN xb Ab nb cb w');have u:=za k1;have o:=za k2;have j:=za k3;have i:=za a;have K:=za wa;have s:=za wb;have c1:wr.drew.cell? ⟨p,0,none⟩=some (.slice Aa na ca):=k1.cell;have c2:wr.drew.cell? ⟨p+1,0,none⟩=some (.slice Ab nb cb):=k2.cell;have N:Below wr.heap.size wr wr.drew:=(qZ _ wr).drew;clear k1 k2 k3 wa wb a oa ob hG;go_wp2_with fail
  go_region_held3 (fun w' => w'.cell? ⟨p,0,none⟩ = some (.slice Aa na ca) ∧ w'.cell? ⟨p + 1,0,none⟩ = some (.slice Ab nb cb) ∧ Below wr.heap.size wr w')
   (first|(exact⟨c1,c2,N⟩)|(go_split_ands;(repeat' apply And.intro);all_goals (first|exact zk|exact zt t zk|exact zc zk t)))
   (first|(go_at_call 102;(first|(with_reducible refine(LA.o _).mono ?_)|(with_reducible refine(LB.o _).mono ?_));rintro e w2 ⟨rfl,t⟩))
  rename_i hH
  obtain⟨c1,c2,B⟩:=hH;by_cases hl:na=nb
  ·subst hl;have R:((na:Int) !=(na:Int))=false:=zE;have WA:=zj wr (λw' h=>fS xa Aa na ca w' (K.o.below h) zb);have WB:=zj wr (λw' h=>fS xb Ab na cb w' (s.o.below h) zb);have ae:0<na:=by
    rcases QT na with e|e
    ·have h:=K.o.len;rw [e] at h;have h2:=vf (b:=18446744073709551616) zg xa;rw [QY h] at h2;have:=F.o;simp [dv] at h2;omega
    ·exact e
   have O:=B.drew;have c1:w2.drew.cell? ⟨p,0,none⟩=some (.slice Aa na ca):=c1;have c2:w2.drew.cell? ⟨p+1,0,none⟩=some (.slice Ab na cb):=c2;have c1r:=u.o.cell;have c2r:=o.o.cell;have al:=za (HT.o.on i.o);have aj:=za j.o;have f3:=j.o.frozen;have lt3:=j.o.lt;have ai:=za (fun(w5:World) (ga gb L M:Nat) (ra:zF w5 132 ga L na (dg 18446744073709551616 xa)) (rb:zF w5 132 gb M na (dg 18446744073709551616 xb)) (R:ga≠gb) (h1:wr.heap.size<=ga) (h2:wr.heap.size<=gb) (hb:Below wr.heap.size wr w5)=>
    rr wr 132 132 ga gb L M na G (dg 18446744073709551616 xa) (dg 18446744073709551616 xb) w5 ⟨ra,rb,R,h1,h2,vV zg _,vV zg _,by rw [vf zg];exact F.o,by rw [vf zg];exact J.o,by rw [vf zg,vf zg];exact HG.o,rfl,qY _,hb⟩ zb al.o)
   have ak:=za (fun(w6:World) (A6:ze) (m6 c6:Nat) (L6:List Nat) (h:zH w6 w6.heap.size 1 A6 m6 (zq .u64 L6)) (hd:zD 18446744073709551616 L6) (hv:dv 18446744073709551616 L6=G) (h1:m6<=c6) (h2:c6<=maxLen) (h3:m6<=1099511627776)=>
    show Calls prog 104 #[.slice A6 m6 c6] w6 (xp w6 G) from hv▸uS A6 m6 c6 L6 w6 h hd h1 (by unfold maxLen at h2;omega) h3)
   clear B t;go_wp2_with fail
   go_region_held3 (fun w' => w'.cell? ⟨p,0,none⟩ = some (.slice Aa na ca) ∧ w'.cell? ⟨p + 1,0,none⟩ = some (.slice Ab na cb))
    (first|(exact⟨c1,c2⟩)|(go_split_ands;(repeat' apply And.intro);all_goals (first|exact zk|exact zt t zk|exact zc zk t|exact zz _ (by show wr.heap.size<=p+1+1;omega) zk|exact zR _ (by show p≠p+1+1;omega) zk|exact zR _ (by show p+1≠p+1+1;omega) zk)))
    (first
      |(go_at_call 101;(with_reducible refine(WA.o _ O).mono ?_);rintro e w4 ⟨v4,rfl,az,t⟩;have ab:=zc O t;obtain⟨ga,L,rfl,ar,ra⟩:=zF.of_own az ae)
      |(go_at_call 101;(with_reducible refine(WB.o _ ab).mono ?_);rintro e w5 ⟨v5,rfl,a0,t⟩;have ap:=zc ab t;obtain⟨gb,M,rfl,hgb,rb⟩:=zF.of_own a0 ae;have ah:=ra.keep t)
      |(go_at_call 188;(with_reducible refine(ai.o w5 ga gb L M ah rb (by have h1:=ra.lt;omega) (qL O.size ar) (by have h1:=ra.lt;have h2:=O.size;omega) ap).mono ?_);rintro e w6 ⟨A6,m6,c6,L6,rfl,C,ad,af,am,an,ao,t⟩;have ac:=t)
      |(go_at_call 104;(with_reducible refine(ak.o w6 A6 m6 c6 L6 C ad af am an ao).mono ?_);rintro e w7 ⟨A7,n7,c7,rfl,ag,t,aq⟩;have Q:=zc ac t;have k7:=aj.o.keep Q;have f7:=k7.frozen;have e7:=k7.cell))
   have r7:=(k7.set_ (.slice A7 n7 c7)).cell;have HE:zd (pX w G (.returned (.agg #[.slice A7 n7 c7])) (w7.setCell ⟨p+1+1,0,none⟩ (.slice A7 n7 c7))):=⟨_,_,_,rfl,wf ag k7 _,(zc i.o Q).setCell (p:=⟨p+1+1,0,none⟩) (by show w.heap.size<=p+1+1;omega) _⟩;clear k7 Q t ag aq ac C ad af ah rb ra;go_wp2;refine bodyPost_ret (v:=.agg #[.slice A7 n7 c7]) (by simp [results,results178,go_sem,r7]) rfl ?_;exact HE.o
  ·have R:((na:Int) !=(nb:Int))=true:=by simp;omega
   have N:=B.drew;have Z:w2.drew.cell? ⟨p,0,none⟩=some (.slice Aa na ca):=c1;have aa:w2.drew.cell? ⟨p+1,0,none⟩=some (.slice Ab nb cb):=c2;clear B c1 c2;go_wp2_with fail
   go_region_held3 (fun w' => w'.cell? ⟨p,0,none⟩ = some (.slice Aa na ca) ∧ w'.cell? ⟨p + 1,0,none⟩ = some (.slice Ab nb cb) ∧ Below wr.heap.size wr w')
    (first|(exact⟨Z,aa,N⟩)|(go_split_ands;(repeat' apply And.intro);all_goals (first|exact zk|exact zt t zk|exact zc zk t)))
    (first|(go_at_call 102;(first|(with_reducible refine(LA.o _).mono ?_)|(with_reducible refine(LB.o _).mono ?_));rintro e w3 ⟨rfl,t⟩))
   rename_i hH
   obtain⟨c1,c2,B⟩:=hH;have k1:=u.o.keep B;have k2:=o.o.keep B;have k3:=j.o.keep B;have a:=zc i.o B;have wa:=K.o.below B;have wb:=s.o.below B;clear t Z aa N u o j i K s LA LB B;by_cases hlt:na<nb
   ·have f1:=k1.frozen;have f2:=k2.frozen;have q1:=k1.set_ (.slice Ab nb cb);have q2:=(k2.far (p:=⟨p,0,none⟩) (by show p+1≠p;omega) (.slice Ab nb cb));have r1:=q1.far (p:=⟨p+1,0,none⟩) (by show p≠p+1;omega) (.slice Aa na ca);have r2:=q2.set_ (.slice Aa na ca);have r3:=(k3.far (p:=⟨p,0,none⟩) (by show p+1+1≠p;omega) (.slice Ab nb cb)).far (p:=⟨p+1,0,none⟩) (by show p+1+1≠p+1;omega) (.slice Aa na ca);have ra:=wf (wf wa k1 (.slice Ab nb cb)) q2 (.slice Aa na ca);have rb:=wf (wf wb k1 (.slice Ab nb cb)) q2 (.slice Aa na ca);have rB:=(a.setCell (p:=⟨p,0,none⟩) (by show w.heap.size<=p;omega) (.slice Ab nb cb)).setCell (p:=⟨p+1,0,none⟩) (by show w.heap.size<=p+1;omega) (.slice Aa na ca);have e1:=r1.cell;have e2:=r2.cell;have f3:=q2.frozen;have e3:=q2.cell;clear k1 k2 k3 wa wb a q1 q2;go_wp2_with fail;clear e1 e2 e3 f1 f2 f3 c1 c2;generalize (w3.setCell ⟨p,0,none⟩ (.slice Ab nb cb)).setCell ⟨p+1,0,none⟩ (.slice Aa na ca)=W at*;have k1:=r1;have k2:=r2;have k3:=r3;have wa:=ra;have wb:=rb;have a:=rB;clear r1 r2 r3 ra rb rB;have aw:xa<xb:=jU (b:=18446744073709551616) zg (by rw [wb.len,wa.len];omega);have P:xa≠0:=by have:=F.o;omega
    have MD:=za (lL.mod xb xa Ab Aa nb na cb ca W wb wa U T P);have s:=za wa;have u:=za k1;have o:=za k2;have j:=za k3;have i:=za a;have I:=wa.len;clear wa wb k1 k2 k3 a;refine MD.o.mono ?_;rintro e w3 ⟨A3,n3,c3,rfl,k,hb⟩;have k1:=u.o.keep hb;have k2:=o.o.keep hb;have k3:=j.o.keep hb;have a:=zc i.o hb;have wa:=s.o.below hb;obtain⟨d1,d2,d3⟩:=zw w3 37 #[.slice A3 n3 c3];have k1:=k1.keep d1;have k2:=k2.keep d1;have k3:=k3.keep d1;have a:=zc a d1;have wa:=wa.below d1;have k:=k.below d1;have k5:=d2.one;have g5:=k5.cell;have f1:=k1.frozen;have e1:=k1.cell;have au:=k1.lt;have av:=k3.lt;clear d1 d2 d3 hb u o j i s MD;by_cases hz:xb%xa=0
    ·have hG:zd (xa=G):=by
      have h:=Y.o;rw [XC,Nat.gcd_rec,hz,XE] at h;exact h
     have ZY:=za (jG hz k);have o:=za k2;have j:=za k3;have i:=za a;have s:=za wa;clear k1 k2 k3 a wa k e1 f1;go_wp2_with fail;refine ZY.o.mono ?_;rintro e w4 ⟨rfl,hb⟩;have k2:=o.o.keep hb;have k3:=j.o.keep hb;have a:=zc i.o hb;have wa:=s.o.below hb;have e2:=k2.cell;have e3:=k3.cell;have f3:=k3.frozen;have r4:=(k3.set_ (.slice Aa na ca)).cell;have HE:zd (pX w G (.returned (.agg #[.slice Aa na ca])) (w4.setCell ⟨p+1+1,0,none⟩ (.slice Aa na ca))):=⟨_,_,_,rfl,by rw [<-hG.o];exact wf wa k3 _,a.setCell (p:=⟨p+1+1,0,none⟩) (by show w.heap.size<=p+1+1;omega) _⟩;clear hG o j i s k2 k3 wa a hb;go_wp2;refine bodyPost_ret (v:=.agg #[.slice Aa na ca]) (by simp [results,results178,go_sem,r4]) rfl ?_;exact HE.o
    ·have ZN:=za (ko hz k);have H:=za k;have u:=za k1;have o:=za k2;have j:=za k3;have i:=za a;have s:=za wa;clear k1 k2 k3 a wa k e1 f1;go_wp2_with fail;refine ZN.o.mono ?_;rintro e w4 ⟨rfl,hb⟩;have g5:=zt hb g5;have k:=H.o.below hb;have a:=zc i.o hb;have a1:xb%xa<xa:=QH _ zb;have ax:n3<=na:=by
      rw [<-k.len,<-I];exact tm zg zb
     have OP:=za (fU _ A3 n3 c3 w4 k zb (HT.o.on a));have E:=za hb;clear k a H hb;go_wp2_with fail;refine OP.o.mono ?_;rintro e w5 ⟨A6,n6,c6,rfl,C,hb,_⟩;have z:=zc E.o hb;have k1:=u.o.keep z;have k2:=o.o.keep z;have k3:=j.o.keep z;have a:=zc i.o z;have wa:=s.o.below z;have hs:=Up hz Y.o F.o;obtain⟨g1,g2,g3⟩:=hs;have ay:n6<=na:=by
      rw [<-C.len,<-I];exact tm zg zb
     have HE : zd (oU w (w5.setCell ⟨p,0,none⟩ (.slice A6 n6 c6)) p G (wI (xb % xa) + xa) (wI (xb % xa)) xa A6 Aa n6 c6 na ca) :=
      ⟨k1.set_ _,k2.far (p:=⟨p,0,none⟩) (by show p+1≠p;omega) _,k3.far (p:=⟨p,0,none⟩) (by show p+1+1≠p;omega) _,wf C k1 _,wf wa k1 _,g1,F.o,g2,rfl,zb,T,a.setCell (p:=⟨p,0,none⟩) (by show w.heap.size<=p;omega) _⟩
     have e1:=k1.cell;have f1:=k1.frozen;clear k1 k2 k3 a wa C z E hb u o j i s g5;go_wp2;go_roundg (wI (xb%xa)+xa+1)
     case measure=>omega
     case rel=>exact⟨_,_,_,_,_,_,_,_,_,HE.o,zb⟩
   ·clear c1 c2;have c1:=k1.cell;have c2:=k2.cell;go_wp2_with fail;obtain⟨W,hW⟩:∃x,x=w3:=⟨_,rfl⟩;subst hW;have aw:xb<xa:=jU (b:=18446744073709551616) zg (by rw [wa.len,wb.len];omega);have P:xb≠0:=by have:=J.o;omega
    have MD:=za (lL.mod xa xb Aa Ab na nb ca cb W wa wb T U P);have s:=za wb;have u:=za k1;have o:=za k2;have j:=za k3;have i:=za a;have I:=wb.len;clear wa wb k1 k2 k3 a;refine MD.o.mono ?_;rintro e w3 ⟨A3,n3,c3,rfl,k,hb⟩;have k1:=u.o.keep hb;have k2:=o.o.keep hb;have k3:=j.o.keep hb;have a:=zc i.o hb;have wb:=s.o.below hb;obtain⟨d1,d2,d3⟩:=zw w3 37 #[.slice A3 n3 c3];have k1:=k1.keep d1;have k2:=k2.keep d1;have k3:=k3.keep d1;have a:=zc a d1;have wb:=wb.below d1;have k:=k.below d1;have k5:=d2.one;have g5:=k5.cell;have f1:=k1.frozen;have e1:=k1.cell;have au:=k1.lt;have av:=k3.lt;clear d1 d2 d3 hb u o j i s MD;by_cases hz:xa%xb=0
    ·have hG:zd (xb=G):=by
      have h:=X.o;rw [XC,Nat.gcd_rec,hz,XE] at h;exact h
     have ZY:=za (jG hz k);have o:=za k2;have j:=za k3;have i:=za a;have s:=za wb;clear k1 k2 k3 a wb k e1 f1;go_wp2_with fail;refine ZY.o.mono ?_;rintro e w4 ⟨rfl,hb⟩;have k2:=o.o.keep hb;have k3:=j.o.keep hb;have a:=zc i.o hb;have wb:=s.o.below hb;have e2:=k2.cell;have e3:=k3.cell;have f3:=k3.frozen;have r4:=(k3.set_ (.slice Ab nb cb)).cell;have HE:zd (pX w G (.returned (.agg #[.slice Ab nb cb])) (w4.setCell ⟨p+1+1,0,none⟩ (.slice Ab nb cb))):=⟨_,_,_,rfl,by rw [<-hG.o];exact wf wb k3 _,a.setCell (p:=⟨p+1+1,0,none⟩) (by show w.heap.size<=p+1+1;omega) _⟩;clear hG o j i s k2 k3 wb a hb;go_wp2;refine bodyPost_ret (v:=.agg #[.slice Ab nb cb]) (by simp [results,results178,go_sem,r4]) rfl ?_;exact HE.o
    ·have ZN:=za (ko hz k);have H:=za k;have u:=za k1;have o:=za k2;have j:=za k3;have i:=za a;have s:=za wb;clear k1 k2 k3 a wb k e1 f1;go_wp2_with fail;refine ZN.o.mono ?_;rintro e w4 ⟨rfl,hb⟩;have g5:=zt hb g5;have k:=H.o.below hb;have a:=zc i.o hb;have a1:xa%xb<xb:=QH _ zb;have ax:n3<=nb:=by
      rw [<-k.len,<-I];exact tm zg zb
     have OP:=za (fU _ A3 n3 c3 w4 k zb (HT.o.on a));have E:=za hb;clear k a H hb;go_wp2_with fail;refine OP.o.mono ?_;rintro e w5 ⟨A6,n6,c6,rfl,C,hb,_⟩;have z:=zc E.o hb;have k1:=u.o.keep z;have k2:=o.o.keep z;have k3:=j.o.keep z;have a:=zc i.o z;have wb:=s.o.below z;have hs:=Up hz X.o J.o;obtain⟨g1,g2,g3⟩:=hs;have ay:n6<=nb:=by
      rw [<-C.len,<-I];exact tm zg zb
     have HE : zd (oU w (w5.setCell ⟨p,0,none⟩ (.slice A6 n6 c6)) p G (wI (xa % xb) + xb) (wI (xa % xb)) xb A6 Ab n6 c6 nb cb) :=
      ⟨k1.set_ _,k2.far (p:=⟨p,0,none⟩) (by show p+1≠p;omega) _,k3.far (p:=⟨p,0,none⟩) (by show p+1+1≠p;omega) _,wf C k1 _,wf wb k1 _,g1,J.o,g2,rfl,zb,U,a.setCell (p:=⟨p,0,none⟩) (by show w.heap.size<=p;omega) _⟩
     have e1:=k1.cell;have f1:=k1.frozen;clear k1 k2 k3 a wb C z E hb u o j i s g5;go_wp2;go_roundg (wI (xa%xb)+xb+1)
     case measure=>omega
     case rel=>exact⟨_,_,_,_,_,_,_,_,_,HE.o,zb⟩
theorem S6 (x k:Nat)(A:ze)(n c:Nat)(w:World)(hA:zn w x A n c)(hn:n<=137438953472)(hk:k<=1099511627776):
  Calls prog 177 #[.agg #[.slice A n c],.int .i64 k] w (xp w (2^k*x)):=by
 obtain⟨i0,J,O,P,Q⟩:=info_parts ol;have hsz:Sz (n+1) (2^(k%64)*x):=Sz.shl' (M:=1) (show Sz n x by have h:=ym (b:=18446744073709551616) zg x;rw [hA.len] at h;exact h) zb;have HS:=zj w (λw' hb=>US x (k%64) A n c w' (hA.below hb) zb zb);have HV:zd (18446744073709551616^(k / 64)*(2^(k%64)*x)=2^k*x):=by show _=_;rw [<-qG,nJ]
 obtain⟨q,hq⟩:∃q,k / 64=q:=⟨_,rfl⟩;obtain⟨r,hr⟩:∃r,k%64=r:=⟨_,rfl⟩;have ai:(k:Int) / 64=(q:Int):=zb;have aj:(k:Int)%64=(r:Int):=zb;have hqt:(k:Int).tdiv 64=(q:Int):=by rw [Int.tdiv_eq_ediv_of_nonneg zb];exact ai
 have hrt:(k:Int).tmod 64=(r:Int):=by rw [xL zb];exact aj
 have hqk:q<=17179869184:=zb;have hqw:IntKind.i64.wrap (q:Int)=(q:Int):=QO _ zb;have hrw:IntKind.i64.wrap (r:Int)=(r:Int):=QO _ zb;rw [hq,hr] at HV;rw [hr] at HS hsz;obtain⟨y,hy⟩:∃y,2^r*x=y:=⟨_,rfl⟩;obtain⟨X,hX⟩:∃y,2^k*x=y:=⟨_,rfl⟩;rw [hy] at HS hsz;rw [hy,hX] at HV;rw [hX];have ae:=za hsz;have HW:=za (λw' A' n' c' (h:zn w' y A' n' c') (hb:n'<=1099511627776)=>fS y A' n' c' w' h hb);obtain⟨Z,hZ⟩:∃Z,madeCells (Value.cells (.int .u64 0)) q=Z:=⟨_,rfl⟩;have hmk:∀W:World,(Instr.makeSlice 35 (.int .i64 (q:Int)) (.int .i64 (q:Int))).run prog W=.ok (.slice (some ⟨W.heap.size,0,none⟩) q q) (W.alloc (.cells Z 132)):=λW=>by
  have h:=tH _ _ i0 _ underlying35 J O .i64 .i64 q q (qY _) (by rw [Q];omega) zb W;rw [P,xC,hZ] at h;exact h
 have HM:zd (∀W:World,zF (W.alloc (.cells Z 132)) 132 W.heap.size q q (List.replicate q 0)):=λW=>by
  have h:=zF.made W 132 q (by unfold maxLen;omega);rw [hZ] at h;exact h
 clear hZ hA hq hr hy hX hsz;go_enter func177,ntmps177;go_wp2_with fail;obtain⟨b1,b2,b3,b5⟩:=zX w 37 37 #[.slice A n c] #[.slice none 0 0];generalize hW:(w.alloc (.cells #[.slice A n c] 37)).alloc (.cells #[.slice none 0 0] 37)=W0 at*;clear hW b2;refine(HS.o _ b1).mono ?_;rintro e w1 ⟨A1,n1,c1,rfl,L,hb,Y⟩;have hB:=zc b1 hb;have t:=zf hb b3;clear hb b1 b3 b5 Y HS;obtain⟨d1,d2,d5⟩:=zw w1 37 #[.slice A1 n1 c1];have hB:=zc hB d1;have t:=zf d1 t;have N:=L.below d1;have g5:(w1.alloc (.cells #[.slice A1 n1 c1] 37)).cell? ⟨w1.heap.size,0,none⟩=some (.slice A1 n1 c1):=d2.cell 0;have hn1:n1<=n+1:=by have h:=L.len;rw [<-h];exact wy zg _ _ ae.o
 have hl4:=t.lt;clear d1 d2 d5 L;go_wp2_with fail;generalize hW:w1.alloc (.cells #[.slice A1 n1 c1] 37)=W at*;obtain⟨z,hz⟩:∃z,w1.heap.size=z:=⟨_,rfl⟩;rw [hz] at g5⊢;clear hW hz;have hbw:=hB.size;have G0:W.drew.cell? ⟨z,0,none⟩=some (.slice A1 n1 c1):=g5;have G1:(W.alloc (.cells Z 132)).cell? ⟨z,0,none⟩=some (.slice A1 n1 c1):=xt _ g5;have G2:(W.alloc (.cells Z 132)).drew.cell? ⟨z,0,none⟩=some (.slice A1 n1 c1):=G1;have T:=za N;have ab:zd ((dg 18446744073709551616 y).length=n1):=N.len;have S:=za (vf (b:=18446744073709551616) zg y);have R:=za (vV (b:=18446744073709551616) zg y);obtain⟨D,hD⟩:∃D,dg 18446744073709551616 y=D:=⟨_,rfl⟩;rw [hD] at HW ab S R;clear N hD;have ah:=HW.o W A1 n1 c1 T.o zb;have WD:∀w',zd (Below W.heap.size W w')->Calls prog 101 #[.agg #[.slice A1 n1 c1]] w' (fs w' n1 (zq .u64 D)):=λw' h=>HW.o w' A1 n1 c1 (T.o.below h.o) zb;have af:=za WD;have G:zd (Below W.heap.size W W.drew):=(qZ _ W).drew;have H:zd (Below W.heap.size W (W.alloc (.cells Z 132)).drew):=((qZ _ W).alloc (qY _) _).drew;have ag:zd (zF (W.alloc (.cells Z 132)).drew 132 W.heap.size q q (List.replicate q 0)):=(HM.o W).drew;have ac:=za (fun(w':World) (A':ze) (c':Nat) (h:zH w' w'.heap.size 1 A' (q+n1) (zq .u64 (List.replicate q 0++D))) (h1:q+n1<=c') (h2:c'<=9223372036854775807)=>
  show Calls prog 104 #[.slice A' (q+n1:Nat) c'] w' (xp w' X) from by
   have h:=uS A' (q+n1) c' (List.replicate q 0++D) w' h ((zD.zeros zg q).append R.o) h1 h2 zb;rw [uO,jB,yE,S.o,xA,HV.o] at h;exact h)
 clear WD ah
 go_region_law (first
  |(refine Ye _ rfl (.tmp 16) (.tmp 18) 35 rfl W.heap.size 132 i0 (.int .u64 0) 1 8 underlying35 J O P Q rfl zg (.slice (some ⟨W.heap.size,0,none⟩) q q) q (zq .u64 (List.replicate q 0)) rfl ((ag.o.keep s).own (qY _)) w3.heap.size A3 n1 c3 (zq .u64 D) rfl K (jF _ _) (by unfold maxLen;omega) zb d.size ?_;intro v4 w4 i a B;have o:Below W.heap.size W w4:=d.grown a d.size (λg e=>by cases e;exact qY _);obtain⟨A4,c4,rfl,C,E,m⟩:=zH.of_grown_own i;rw [<-tJ] at m)
  |(refine Ye _ rfl (.tmp 16) (.tmp 18) 35 rfl W.heap.size 132 i0 (.int .u64 0) 1 8 underlying35 J O P Q rfl zg (.slice (some ⟨w3.heap.size,0,none⟩) q q) q (zq .u64 (List.replicate q 0)) rfl ((HM.o w3).own d.size) w3.heap.size A3 n1 c3 (zq .u64 D) rfl (K.alloc (qY _) _) (jF _ _) (by unfold maxLen;omega) zb (by have:=d.size;simp;omega) ?_;intro v4 w4 i a B;have o:Below W.heap.size W w4:=(xk _ d).grown a (by have:=d.size;simp;omega) (λg e=>by cases e;exact d.size);obtain⟨A4,c4,rfl,C,E,m⟩:=zH.of_grown_own i;rw [<-tJ] at m)
  |(go_simp;go_at_call 101;refine(af.o _ (by first|exact G|exact H)).mono ?_;rintro e w3 ⟨v3,rfl,j,s⟩;obtain⟨A3,c3,rfl,hc3a,hc3b,K⟩:=zH.of_grown_own j;have d:Below W.heap.size W w3:=(by first|exact G.o.trans (s.mono G.o.size)|exact H.o.trans (s.mono H.o.size)))
  |(go_simp;go_at_call 104;refine(ac.o w4 A4 c4 m C (by unfold maxLen at E;omega)).mono ?_;rintro e w5 ⟨A5,n5,c5,rfl,aa,V,I⟩;have F:Below W.heap.size W w5:=zc o V;have u:=zf F t;have hc1:=u.cell 0;have Y:=u.frozen 0))
 all_goals
  have hs5:=o.size
  have p4:xg w5 (w.heap.size+1) (.slice none 0 0):=⟨_,u⟩
  have r4:=(p4.set_ (.slice A5 n5 c5)).cell
  have U:=zc hB F
  have HG : zd (xp w X (.returned (.agg #[.slice A5 n5 c5])) (w5.setCell ⟨w.heap.size + 1,0,none⟩ (.slice A5 n5 c5))) :=
   eQ aa U (by show _<=_;simp) (λad e=>by have:=I ad e;show ad.block≠_;simp;omega) (λad e=>by have:=I ad e;omega) _
  clear aa I u p4 U F V o m i a B K j s d
  go_wp2
  refine bodyPost_ret (v:=.agg #[.slice A5 n5 c5]) (by simp [results,results177,go_sem,r4]) rfl ?_
  exact HG.o
theorem ZE {a b:Nat}(ha:a%2=1):∀k,Nat.gcd (2^k*b) a=Nat.gcd b a
 |0=>by rw [XB,yD]
 |k+1=>by
   have h:=ip (p:=2^(k+1)*b) (q:=a) (by rw [qP,qS (2^k) 2,qG];exact Nat.mul_mod_right _ _) zb;rw [<-h,qP,qS (2^k) 2,qG,XM _ zg];exact ZE ha k
theorem Uo (h:x≠0):2^wg x*wI x=x:=by
 rcases tF x with⟨e,_⟩|⟨m,hm⟩
 ·exact absurd e h
 ·unfold wI;exact YJ ⟨2*m+1,hm⟩
theorem ru {y:Nat}(hx:x≠0)(hy:y≠0):2^min (wg x) (wg y)*Nat.gcd (wI x) (wI y)=Nat.gcd x y:=by
 have ex:=Uo hx;have ey:=Uo hy;have ox:=fk hx;have oy:=fk hy;obtain⟨s,hs⟩:∃s,wg x=s:=⟨_,rfl⟩;obtain⟨t,ht⟩:∃s,wg y=s:=⟨_,rfl⟩;rw [hs] at ex⊢;rw [ht] at ey⊢;rcases Nat.le_total s t with h|h
 ·obtain⟨d,rfl⟩:∃d,t=s+d:=⟨t - s,zb⟩;rw [xZ h]
  conv=>rhs;rw [<-ex,<-ey,xX,qG,Nat.gcd_mul_left,XC,ZE ox,XC]
 ·obtain⟨d,rfl⟩:∃d,s=t+d:=⟨s - t,zb⟩;rw [Nat.min_eq_right h]
  conv=>rhs;rw [<-ex,<-ey,xX,qG,Nat.gcd_mul_left,ZE oy]
theorem Ws (h:(dg 18446744073709551616 x).length=n):wg x<=64*n:=by
 rcases tF x with⟨_,e⟩|⟨m,hm⟩
 ·omega
 ·have h1:=ym (b:=18446744073709551616) zg x;rw [h,show(18446744073709551616:Nat)=2^64 from rfl,<-yG] at h1;have h2:2^wg x<=x:=by
   conv=>rhs;rw [hm]
   exact Nat.le_mul_of_pos_right _ zb
  rcases xY (64*n) (wg x) with h3|h3
  ·have:=qV (n:=2) zg (QD h3);omega
  ·exact h3
theorem rt (x y:Nat)(A D:ze)(n m c d:Nat)(w:World)(hA:zn w x A n c)(hD:zn w y D m d)(hn:n<=1073741824)(hm:m<=1073741824)(hT:zu w):
  Calls prog 162 #[.agg #[.slice A n c],.agg #[.slice D m d]] w (pX w (Nat.gcd x y)):=by
 obtain⟨G,hG⟩:∃g,Nat.gcd x y=g:=⟨_,rfl⟩;rw [hG];have HG:=za hG;clear hG;have E:=za hA.len;have F:=za hD.len;obtain⟨ux,bx,HU,hu⟩:∃(ux:Nat) (bx:Bool),zd (∀w',Below w.heap.size w w'->Calls prog 157 #[.agg #[.slice A n c]] w' λe ab=>e=.returned (.tuple #[.int .u64 ux,.bool bx])/\Below w'.heap.size w' ab)/\((n<=1/\bx=true/\ux=wd x 0)\/(1<n/\bx=false)):=by
  by_cases h:n<=1
  ·exact⟨_,_,λw' hb=>gR x A n c w' (hA.below hb) h,.inl ⟨h,rfl,rfl⟩⟩
  ·exact⟨0,_,λw' hb=>gT A n c w' zb,.inr ⟨zb,rfl⟩⟩
 obtain⟨uy,bY,HV,hv⟩:∃(ux:Nat) (bx:Bool),zd (∀w',Below w.heap.size w w'->Calls prog 157 #[.agg #[.slice D m d]] w' λe ab=>e=.returned (.tuple #[.int .u64 ux,.bool bx])/\Below w'.heap.size w' ab)/\((m<=1/\bx=true/\ux=wd y 0)\/(1<m/\bx=false)):=by
  by_cases h:m<=1
  ·exact⟨_,_,λw' hb=>gR y D m d w' (hD.below hb) h,.inl ⟨h,rfl,rfl⟩⟩
  ·exact⟨0,_,λw' hb=>gT D m d w' zb,.inr ⟨zb,rfl⟩⟩
 go_enter func162,ntmps162;go_wp2_with fail;obtain⟨b1,b2,b3,b4,b5⟩:=yn w 37 37 37 #[.slice A n c] #[.slice D m d] #[.slice none 0 0];generalize hW:((w.alloc (.cells #[.slice A n c] 37)).alloc (.cells #[.slice D m d] 37)).alloc (.cells #[.slice none 0 0] 37)=W0 at*;obtain⟨p,hp⟩:∃p,w.heap.size=p:=⟨_,rfl⟩;have hpw:w.heap.size<=p:=zb;have g1:W0.cell? ⟨p,0,none⟩=some (.slice A n c):=by rw [<-hp];exact b2.cell 0
 have g2:W0.cell? ⟨p+1,0,none⟩=some (.slice D m d):=by rw [<-hp];exact b3.cell 0
 have J:zd (xg W0 (p+1+1) (.slice none 0 0)):=by rw [<-hp];exact b4.one
 have HB:=za b1;have B:=za (hA.below b1);have C:=za (hD.below b1);have N:=za (hT.on b1);refine(HU.o _ b1).mono ?_;rw [hp];clear hp hW b2 b3 b4 b5 hA hD hT b1;rintro e w1 ⟨rfl,hb⟩;obtain⟨g1,g2⟩:=xc hb g1 g2;have V:=hb;clear hb;go_wp2_with fail;refine(HV.o _ (zc HB.o V)).mono ?_;rintro e w2 ⟨rfl,hb⟩;obtain⟨g1,g2⟩:=xc hb g1 g2;have H:=zc V hb;clear hb V HU HV;by_cases hboth:n<=1/\m<=1
 ·obtain⟨h1,h2⟩:=hboth;rcases hu with⟨_,rfl,hux⟩|⟨h,_⟩
  ·rcases hv with⟨_,rfl,huy⟩|⟨h,_⟩
   ·have lx:x<18446744073709551616:=by
     have h:=ym (b:=18446744073709551616) zg x;exact qJ h (by rw [E.o];exact qV zg h1)
    have ly:y<18446744073709551616:=by
     have h:=ym (b:=18446744073709551616) zg y;exact qJ h (by rw [F.o];exact qV zg h2)
    have ex:ux=x:=by rw [hux];unfold wd;rw [XB,Nat.div_one,qO lx]
    have ey:uy=y:=by rw [huy];unfold wd;rw [XB,Nat.div_one,qO ly]
    subst ex ey;have GW:=za (λw'=>Vc ux uy w' lx ly);rw [HG.o] at GW;have lG:zd (G<18446744073709551616):=by
     show _<_;rw [<-HG.o];rcases QT ux with e|e
     ·rw [e,XE];exact ly
     ·exact QU (Nat.gcd_le_left _ e) lx
    clear hux huy lx ly E F;go_wp2_with fail;refine(GW.o _).mono ?_;rintro e w3 ⟨rfl,hb⟩;have j:=zc H hb;have NO:=za (fun(W:World)=>show Calls prog 104 #[.slice (some ⟨W.heap.size,0,none⟩) 1 1] (W.alloc (.cells #[.int .u64 (G:Int)] 132)) (xp (W.alloc (.cells #[.int .u64 (G:Int)] 132)) G) from by
     have h:=uS (some ⟨W.heap.size,0,none⟩) 1 1 [G] (W.alloc (.cells #[.int .u64 (G:Int)] 132)) (U4 W _ G).reads (by intro d hd;simp at hd;have:=lG.o;omega) (qY _) zb zb;rw [show dv 18446744073709551616 [G]=G by simp [dv]] at h;exact h)
    clear hb H;go_wp2_with fail;refine(NO.o _).mono ?_;rintro e w5 ⟨A5,n5,c5,rfl,u,hb,_⟩;have i:=zc (xk _ j) hb;clear j hb;have k5:=J.o.keep (w':=w5) i;have f5:=k5.frozen;have e5:=k5.cell;have r5:=(k5.set_ (.slice A5 n5 c5)).cell;have HE:zd (pX w G (.returned (.agg #[.slice A5 n5 c5])) (w5.setCell ⟨p+1+1,0,none⟩ (.slice A5 n5 c5))):=⟨_,_,_,rfl,wf u k5 _,(zc HB.o i).setCell (p:=⟨p+1+1,0,none⟩) (by show w.heap.size<=p+1+1;omega) _⟩;clear k5 u i;go_wp2;refine bodyPost_ret (v:=.agg #[.slice A5 n5 c5]) (by simp [results,results162,go_sem,r5]) rfl ?_;exact HE.o
   ·omega
  ·omega
 ·by_cases hx:x=0
  ·have ai:=zj W0 (λw' h=>show Calls _ _ _ _ (sm w' (dg 18446744073709551616 G).length (zq .u64 (dg 18446744073709551616 G))) from by
    have e:y=G:=by rw [<-HG.o,hx,XE]
    rw [<-e];exact lY y D m d w' (C.o.below h) zb)
   have ag:zd ((dg 18446744073709551616 G).length<=1099511627776):=by
    show _<=_;rw [<-HG.o,hx,XE,F.o];omega
   have ZA:=za (jG hx (B.o.below H));have O:bx=true/\bY=false\/bx=false/\bY=true\/bx=false/\bY=false:=by
    rcases hu with⟨_,rfl,_⟩|⟨_,rfl⟩<;>rcases hv with⟨_,rfl,_⟩|⟨_,rfl⟩<;>first|(exfalso;omega)|simp
   clear hu hv hboth E F B C;rcases O with⟨rfl,rfl⟩|⟨rfl,rfl⟩|⟨rfl,rfl⟩
   all_goals
    go_wp2_with fail
    refine ZA.o.mono ?_
    rintro e w3 ⟨rfl,hb⟩
    have g2:=zt hb g2
    have j:=zc H hb
    clear hb
    go_wp2_with fail
    refine(ai.o _ j).mono ?_
    rintro e w4 ⟨A4,c4,rfl,R,P,⟨Q,_⟩,hb⟩
    have K:=zc j hb
    have NO:=uS A4 _ c4 (dg 18446744073709551616 G) w4 R (vV zg _) P Q ag.o
    rw [vf zg] at NO
    have M:=za NO
    obtain⟨len,I⟩:∃len,(dg 18446744073709551616 G).length=len:=⟨_,rfl⟩
    rw [I] at M⊢
    clear NO R P Q hb I
    go_wp2_with fail
    refine M.o.mono ?_
    rintro e w5 ⟨A5,n5,c5,rfl,u,hb,_⟩
    have i:=zc K hb
    have k5:=J.o.keep (w':=w5) i
    have f5:=k5.frozen
    have e5:=k5.cell
    have r5:=(k5.set_ (.slice A5 n5 c5)).cell
    have HE:zd (pX w G (.returned (.agg #[.slice A5 n5 c5])) (w5.setCell ⟨p+1+1,0,none⟩ (.slice A5 n5 c5))):=⟨_,_,_,rfl,wf u k5 _,(zc HB.o i).setCell (p:=⟨p+1+1,0,none⟩) (by show w.heap.size<=p+1+1;omega) _⟩
    clear k5 u i
    go_wp2
    refine bodyPost_ret (v:=.agg #[.slice A5 n5 c5]) (by simp [results,results162,go_sem,r5]) rfl ?_
    exact HE.o
  ·by_cases hy:y=0
   ·have ah:=zj W0 (λw' h=>show Calls _ _ _ _ (sm w' (dg 18446744073709551616 G).length (zq .u64 (dg 18446744073709551616 G))) from by
     have e:x=G:=by rw [<-HG.o,hy,Nat.gcd_zero_right]
     rw [<-e];exact lY x A n c w' (B.o.below h) zb)
    have af:zd ((dg 18446744073709551616 G).length<=1099511627776):=by
     show _<=_;rw [<-HG.o,hy,Nat.gcd_zero_right,E.o];omega
    have ZA:=za (ko hx (B.o.below H));have ZB:=zj W0 (λw' h=>jG hy (C.o.below h));have O:bx=true/\bY=false\/bx=false/\bY=true\/bx=false/\bY=false:=by
     rcases hu with⟨_,rfl,_⟩|⟨_,rfl⟩<;>rcases hv with⟨_,rfl,_⟩|⟨_,rfl⟩<;>first|(exfalso;omega)|simp
    clear hu hv hboth E F B C;rcases O with⟨rfl,rfl⟩|⟨rfl,rfl⟩|⟨rfl,rfl⟩
    all_goals
     go_wp2_with fail
     refine ZA.o.mono ?_
     rintro e aj ⟨rfl,hb⟩
     obtain⟨g1,g2⟩:=xc hb g1 g2
     have o:=zc H hb
     clear hb
     go_wp2_with fail
     refine(ZB.o _ o).mono ?_
     rintro e w3 ⟨rfl,hb⟩
     have g1:=zt hb g1
     have j:=zc o hb
     clear hb o
     go_wp2_with fail
     refine(ah.o _ j).mono ?_
     rintro e w4 ⟨A4,c4,rfl,R,P,⟨Q,_⟩,hb⟩
     have K:=zc j hb
     have NO:=uS A4 _ c4 (dg 18446744073709551616 G) w4 R (vV zg _) P Q af.o
     rw [vf zg] at NO
     have M:=za NO
     obtain⟨len,I⟩:∃len,(dg 18446744073709551616 G).length=len:=⟨_,rfl⟩
     rw [I] at M⊢
     clear NO R P Q hb I
     go_wp2_with fail
     refine M.o.mono ?_
     rintro e w5 ⟨A5,n5,c5,rfl,u,hb,_⟩
     have i:=zc K hb
     have k5:=J.o.keep (w':=w5) i
     have f5:=k5.frozen
     have e5:=k5.cell
     have r5:=(k5.set_ (.slice A5 n5 c5)).cell
     have HE:zd (pX w G (.returned (.agg #[.slice A5 n5 c5])) (w5.setCell ⟨p+1+1,0,none⟩ (.slice A5 n5 c5))):=⟨_,_,_,rfl,wf u k5 _,(zc HB.o i).setCell (p:=⟨p+1+1,0,none⟩) (by show w.heap.size<=p+1+1;omega) _⟩
     clear k5 u i
     go_wp2
     refine bodyPost_ret (v:=.agg #[.slice A5 n5 c5]) (by simp [results,results162,go_sem,r5]) rfl ?_
     exact HE.o
   ·have ZA:=za (ko hx (B.o.below H));have ZB:=zj W0 (λw' h=>ko hy (C.o.below h));have PA:=zj W0 (λw' h=>fU x A n c w' (B.o.below h) zb (N.o.on h));have PB:=zj W0 (λw' h=>fU y D m d w' (C.o.below h) zb (N.o.on h));have TA:=zj W0 (λw' h=>aQ x A n c w' (B.o.below h) zb (N.o.on h));have TB:=zj W0 (λw' h=>aQ y D m d w' (C.o.below h) zb (N.o.on h));have tx:=Ws E.o;have ty:=Ws F.o;have lx:=tm (b:=18446744073709551616) zg (Zo x);have ly:=tm (b:=18446744073709551616) zg (Zo y);rw [E.o] at lx;rw [F.o] at ly;have ox:=fk hx;have oy:=fk hy;have U:zd (2^min (wg x) (wg y)*Nat.gcd (wI x) (wI y)=G):=by show _=_;rw [ru hx hy];exact HG.o
    have lg:(dg 18446744073709551616 (Nat.gcd (wI x) (wI y))).length<=n:=qL (tm zg (Nat.gcd_le_left _ zb)) lx;obtain⟨s,hs⟩:∃s,wg x=s:=⟨_,rfl⟩;obtain⟨t,ht⟩:∃s,wg y=s:=⟨_,rfl⟩;obtain⟨X,hX⟩:∃s,wI x=s:=⟨_,rfl⟩;obtain⟨Y,hY⟩:∃s,wI y=s:=⟨_,rfl⟩;rw [hs] at TA tx;rw [ht] at TB ty;rw [hX] at PA lx ox;rw [hY] at PB ly oy;rw [hs,ht,hX,hY] at U;rw [hX,hY] at lg;obtain⟨g,hg⟩:∃s,Nat.gcd X Y=s:=⟨_,rfl⟩;obtain⟨k,hk⟩:∃z,min s t=z:=⟨_,rfl⟩;rw [hg,hk] at U;rw [hg] at lg;have ad:k<=1099511627776:=zb;have q1:(if (t:Int)<(s:Int) then(t:Int) else(s:Int))=(k:Int):=by split<;>omega
    have q6:(if t<s then(t:Int) else(s:Int))=(k:Int):=by split<;>omega
    have q2:(if t<s then t else s)=k:=by split<;>omega
    have q3:(if (s:Int)<=(t:Int) then(s:Int) else(t:Int))=(k:Int):=by split<;>omega
    have q4:(if (s:Int)<(t:Int) then(s:Int) else(t:Int))=(k:Int):=by split<;>omega
    have q5:(if s<t then s else t)=k:=by split<;>omega
    have OO:=za (fun (w' : World) (A1 A2 : ze) (n1 n2 c1 c2 : Nat) (h1 : zn w' X A1 n1 c1) (h2 : zn w' Y A2 n2 c2) (h : Below W0.heap.size W0 w') => show Calls prog 178 #[.agg #[.slice A1 n1 c1],.agg #[.slice A2 n2 c2]] w' (pX w' g) from
     hg▸nw X Y A1 A2 n1 n2 c1 c2 w' h1 h2 (by rw [<-h1.len];omega) (by rw [<-h2.len];omega) ox oy (N.o.on h))
    have RA:=za (fun (w' : World) (A1 : ze) (n1 c1 : Nat) (h1 : zn w' g A1 n1 c1) => show Calls prog 177 #[.agg #[.slice A1 n1 c1],.int .i64 (k : Int)] w' (xp w' G) from
     U.o▸S6 g k A1 n1 c1 w' h1 (by rw [<-h1.len];omega) ad)
    have O:bx=true/\bY=false\/bx=false/\bY=true\/bx=false/\bY=false:=by
     rcases hu with⟨_,rfl,_⟩|⟨_,rfl⟩<;>rcases hv with⟨_,rfl,_⟩|⟨_,rfl⟩<;>first|(exfalso;omega)|simp
    clear hu hv hboth E F B C hs ht hX hY hg hk tx ty lx ly ox oy lg ad;have f3:=J.o.frozen;have lt3:=J.o.lt;rcases O with⟨rfl,rfl⟩|⟨rfl,rfl⟩|⟨rfl,rfl⟩
    all_goals
     go_wp2_with fail
     refine ZA.o.mono ?_
     rintro e aj ⟨rfl,hb⟩
     obtain⟨g1,g2⟩:=xc hb g1 g2
     have o:=zc H hb
     clear hb
     go_wp2_with fail
     refine(ZB.o _ o).mono ?_
     rintro e w3 ⟨rfl,hb⟩
     obtain⟨g1,g2⟩:=xc hb g1 g2
     have j:=zc o hb
     clear hb o
     have j:=j.drew
     have g1:w3.drew.cell? ⟨p,0,none⟩=some (.slice A n c):=g1
     have g2:w3.drew.cell? ⟨p+1,0,none⟩=some (.slice D m d):=g2
     go_wp2_with fail
     go_region_held3 (fun w' => w'.cell? ⟨p,0,none⟩ = some (.slice A n c) ∧ w'.cell? ⟨p + 1,0,none⟩ = some (.slice D m d))
      (first|(exact⟨g1,g2⟩)|(go_split_ands;(repeat' apply And.intro);all_goals (first|exact zk|exact zt a zk|exact zR _ (by show p≠p+1+1;omega) zk|exact zR _ (by show p+1≠p+1+1;omega) zk)))
      (first
        |(go_at_call 179;(with_reducible refine(PA.o _ j).mono ?_);rintro e w4 ⟨A4,n4,c4,rfl,T,a,_⟩;have K:=zc j a)
        |(go_at_call 179;(with_reducible refine(PB.o _ K).mono ?_);rintro e w5 ⟨A5,n5,c5,rfl,u,a,_⟩;have i:=zc K a;have T:=T.below a)
        |(go_at_call 178;(with_reducible refine(OO.o w5 A4 A5 n4 n5 c4 c5 T u i).mono ?_);rintro e w6 ⟨A6,n6,c6,rfl,L,a⟩;have Z:=zc i a)
        |(go_at_call 180;(with_reducible refine(TA.o _ Z).mono ?_);rintro e w7 ⟨rfl,a⟩;have aa:=zc Z a;have L:=L.below a)
        |(go_at_call 180;(with_reducible refine(TB.o _ aa).mono ?_);rintro e w8 ⟨rfl,a⟩;have ac:=zc aa a;have L:=L.below a)
        |(go_at_call 177;(with_reducible refine(RA.o w8 A6 n6 c6 L).mono ?_);rintro e w9 ⟨A9,n9,c9,rfl,ae,a,_⟩;have S:=zc ac a;have k9:=J.o.keep S;have f9:=k9.frozen;have e9:=k9.cell))
     clear f9 e9 k9 a L u T ac aa Z i K
     have k5:=J.o.keep (w':=w9) S
     have f5:=k5.frozen
     have e5:=k5.cell
     have r5:=(k5.set_ (.slice A9 n9 c9)).cell
     have HE:zd (pX w G (.returned (.agg #[.slice A9 n9 c9])) (w9.setCell ⟨p+1+1,0,none⟩ (.slice A9 n9 c9))):=⟨_,_,_,rfl,wf ae k5 _,(zc HB.o S).setCell (p:=⟨p+1+1,0,none⟩) (by show w.heap.size<=p+1+1;omega) _⟩
     clear k5 ae S
     go_wp2
     refine bodyPost_ret (v:=.agg #[.slice A9 n9 c9]) (by simp [results,results162,go_sem,r5]) rfl ?_
     exact HE.o
