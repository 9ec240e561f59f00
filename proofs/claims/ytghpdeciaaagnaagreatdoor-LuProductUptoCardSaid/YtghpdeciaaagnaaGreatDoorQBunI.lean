/- What this claim leans on. -/
import Derived.Test.YtghpdeciaaagnaaGreatDoorQVArgs
import Derived.Test.YtghpdeciaaagnaaGreatDoorQBunG
namespace Go.Proofs.YtghpdeciaaagnaaGreatDoor
open Go Go.RowKit Go.Proofs.Tryz
set_option maxHeartbeats 16000000
set_option maxRecDepth 100000
set_option linter.unusedVariables false
theorem zaq.shrink {w:World}{t:TypeId}{g cap n s:Nat}{L:List Nat}(h:zaq w t g cap n L)(hs:s<=n):zaq w t g cap s (L.take s):=by
 obtain⟨a,h0,h1,h2,h3,h4,h5⟩:=h;refine⟨a,h0,om9,h2,h3,by rw [List.length_take];omega,?_⟩;have e:=congrArg (List.take s) h5;rw [List.take_take,Nat.min_eq_left hs] at e;rw [e];unfold zaF;rw [List.map_take]
theorem ziL {w w':World}{g b cap n:Nat}{t:TypeId}{L:List Nat}(h:Off g w w')(hr:zaq w t b cap n L)(c:b≠g):zaq w' t b cap n L:=by
 obtain⟨a,h0,h1⟩:=hr;exact⟨a,h.blk h0 c,h1⟩
theorem zkI {L:List Nat}(h:L.length=1):L.getD 0 0=dv 18446744073709551616 L:=by
 match L,h with
 |[a],_=>simp [dv]
theorem zpP (w:World)(t:TypeId)(x:Nat):zaq (w.alloc (.cells #[.int .u64 (x:Int)] t)) t w.heap.size 1 1 [x]:=
 ⟨_,Blk.new w t _,Nat.le_refl _,by unfold maxLen;omega,rfl,rfl,rfl⟩
theorem zko {X Y G:Nat}(h0:X - Y≠0)(a:Y<=X)(hG:Nat.gcd X Y=G)(hY:Y%2=1):
  (X - Y) / 2^zbR (X - Y)%2=1/\Nat.gcd ((X - Y) / 2^zbR (X - Y)) Y=G/\(X - Y) / 2^zbR (X - Y)<=X - Y/\(X - Y) / 2^zbR (X - Y)+Y<X+Y:=by
 rcases tw_N (X - Y) with⟨h,_⟩|⟨m,hm⟩
 ·exact absurd h h0
 ·have h1:=zlZ hm;have h3:(X - Y) / 2^zbR (X - Y)<=X - Y:=Nat.div_le_self _ _;have h2:∀t x:Nat,x=2^t*(2*m+1)->Nat.gcd (x / 2^t) Y=Nat.gcd x Y:=λt=>by
   induction t with
   |zero=>intro x _;rw [Nat.pow_zero,Nat.div_one]
   |succ t ih=>
     intro x hx;have e:x / 2=2^t*(2*m+1):=by rw [hx,Nat.pow_succ,Nat.mul_comm (2^t) 2,Nat.mul_assoc,Nat.mul_div_cancel_left _ de9]
     rw [Nat.pow_succ,Nat.mul_comm (2^t) 2,<-Nat.div_div_eq_div_mul,ih _ e];exact zgR (by rw [hx,Nat.pow_succ,Nat.mul_comm (2^t) 2,Nat.mul_assoc];exact Nat.mul_mod_right _ _) om9
  refine⟨h1,?_,h3,om9⟩;rw [h2 _ _ hm,gcd_take a];exact hG
def ziF (w0:World)(G:Nat)(e:Ending)(w':World):Prop:=
 ∃(A:oA9) (m c:Nat) (L:List Nat),e=.returned (.slice A m c)/\zaw w' w'.heap.size 1 A m (zaF .u64 L)/\Dgs 18446744073709551616 L/\dv 18446744073709551616 L=G/\m<=c/\c<=maxLen/\m<=1099511627776/\Below w0.heap.size w0 w'
structure DiffI (w0 wr:World)(n G S:Nat)(tya tyb:TypeId)(ga gb ca cb s:Nat)(La Lb:List Nat):Prop where
 ra:zaq wr tya ga ca s La
 rb:zaq wr tyb gb cb s Lb
 ne:ga≠gb
 ha:w0.heap.size<=ga
 hb:w0.heap.size<=gb
 da:Dgs 18446744073709551616 La
 db:Dgs 18446744073709551616 Lb
 oa:dv 18446744073709551616 La%2=1
 ob:dv 18446744073709551616 Lb%2=1
 gcd:Nat.gcd (dv 18446744073709551616 La) (dv 18446744073709551616 Lb)=G
 sum:dv 18446744073709551616 La+dv 18446744073709551616 Lb=S
 le:s<=n
 below:Below w0.heap.size w0 wr
theorem gcd_diff (w0:World)(c f:TypeId)(ga gb ca cb n G:Nat)(La Lb:List Nat)(w:World)(hI:DiffI w0 w n G (dv 18446744073709551616 La+dv 18446744073709551616 Lb) c f ga gb ca cb n La Lb)(hn:n<=1099511627776)(hT:zai w0):
  Calls prog 212 #[.slice (some ⟨ga,0,none⟩) n ca,.slice (some ⟨gb,0,none⟩) n cb] w (ziF w0 G):=by
 have HT:=lh9 hT;have HI:=lh9 hI;clear hI hT;go_enter func212,ntmps212;go_wp2_with fail
 go_loopg [0,1] (dv 18446744073709551616 La+dv 18446744073709551616 Lb+1) (λgg u0 u1 wr=>∃(c f:TypeId) (ga gb ca cb s S:Nat) (La Lb:List Nat),u0=.slice (some ⟨ga,0,none⟩) s ca/\u1=.slice (some ⟨gb,0,none⟩) s cb/\DiffI w0 wr n G S c f ga gb ca cb s La Lb/\S<gg)
 case atStart=>exact⟨_,_,_,_,_,_,_,_,_,_,rfl,rfl,HI.out,om9⟩
 case round=>
  clear HI;obtain⟨c,f,ga,gb,ca,cb,s0,S,t,u,rfl,rfl,⟨ra,rb,N,K,M,v,y,oa,ob,hG,hS,hsn0,hB⟩,hgg⟩:=hrel;have SH:=lh9 (zmz c f ga gb ca cb s0 t u wr ra rb v y om9 om9);have j:=lh9 ra;have a:=lh9 rb;have HB:=lh9 hB;clear ra rb hB;go_wp2_with fail;refine SH.out.mono ?_;rintro e w2 ⟨s,hs1,P,rfl,ea,eb,hb⟩;have ra:=(j.out.keep hb).shrink P;have rb:=(a.out.keep hb).shrink P;have hB:=zaa HB.out hb;have da:=v.take s;have db:=y.take s;obtain⟨La,F⟩:∃L,t.take s=L:=⟨_,rfl⟩;obtain⟨Lb,H⟩:∃L,u.take s=L:=⟨_,rfl⟩;rw [F] at ra da ea;rw [H] at rb db eb;obtain⟨Xa,I⟩:∃X,dv 18446744073709551616 t=X:=⟨_,rfl⟩;obtain⟨Xb,J⟩:∃X,dv 18446744073709551616 u=X:=⟨_,rfl⟩;rw [I] at ea oa hG hS;rw [J] at eb ob hG hS;have O:s<=n:=om9;have hs:s<=1099511627776:=om9;have HG:=lh9 hG;have r:=lh9 oa;have E:=lh9 ob;clear F H I J SH j a HB hb v y hG;by_cases h1:s=1
  ·subst h1;have k1:=ra.cell 0 om9;have k2:=rb.cell 0 om9;rw [zkI ra.len,ea] at k1;rw [zkI rb.len,eb] at k2;have l1:=zcP da;have l2:=zcP db;rw [ra.len,ea] at l1;rw [rb.len,eb] at l2;have W:=λw'=>zku Xa Xb w' (by simpa using l1) (by simpa using l2);rw [HG.out] at W;have R:=lh9 (show Xa<18446744073709551616 by simpa using l1);have HW:=lh9 W;have T:=hB.drew;have V:w2.drew.cell? ⟨ga,0,none⟩=some (.int .u64 (Xa:Int)):=k1;have Y:w2.drew.cell? ⟨gb,0,none⟩=some (.int .u64 (Xb:Int)):=k2;clear W ra rb l1 l2 oa ob hB ea eb hS;go_wp2_with fail
   go_region_held3 (fun w' => w'.cell? ⟨ga,0,none⟩ = some (.int .u64 (Xa : Int)) ∧ w'.cell? ⟨gb,0,none⟩ = some (.int .u64 (Xb : Int)) ∧ Below w0.heap.size w0 w')
    (first|(exact⟨V,Y,T⟩)|(go_split_ands;(repeat' apply And.intro);all_goals (first|exact as9|exact zaa as9 hb|exact zac hb as9|with_reducible exact zaj _ as9|with_reducible exact zam _ as9)))
    (first|(go_at_call 195;(with_reducible refine(HW.out _).mono ?_);rintro e w' ⟨rfl,hb⟩))
   rename_i hH
   have HE:Hid (∀w':World,Below w0.heap.size w0 (w'.alloc (.cells #[.int .u64 (G:Int)] 160))->ziF w0 G (.returned (.slice (some ⟨w'.heap.size,0,none⟩) 1 1)) (w'.alloc (.cells #[.int .u64 (G:Int)] 160))):=λw' h=>by
    have hG1:G<18446744073709551616:=by
     have e:=HG.out;have:=Nat.gcd_le_left Xb (show 0<Xa by have:=r.out;omega);have l:Xa<18446744073709551616:=R.out;omega
    exact⟨_,_,_,[G],rfl,(zpP w' _ G).reads,by intro d hd;simp at hd;omega,by simp [dv],Nat.le_refl _,by unfold maxLen;omega,om9,h⟩
   go_wp2;go_ret;exact HE.out _ hH.2.2
  ·have hs1':((s:Int)==1)=false:=beq_eq_false_iff_ne.2 om9;have BL:=zqv c f ga gb ca cb s La Lb w2 ra rb da db hs;rw [ea,eb] at BL;have j:=lh9 ra;have a:=lh9 rb;have HB:=lh9 hB;have C:=lh9 BL;have g:=hB.size;clear ra rb hB BL;go_wp2_with fail;refine C.out.mono ?_;rintro e Z ⟨rfl,hb⟩;have ra:=j.out.keep hb;have rb:=a.out.keep hb;have hB:=zaa HB.out hb;clear j a HB C hb g;obtain⟨w2,U⟩:∃x,x=Z:=⟨_,rfl⟩;subst U;have z:=N;have A:=N.symm;have Q:=HG;have D:Hid (Nat.gcd Xb Xa=G):=by show _=_;rw [Nat.gcd_comm];exact HG.out
   by_cases hlt:Xa<Xb
   ·have hd:decide (Xa<Xb)=true:=by simpa using hlt
    have B:Xa<=Xb:=om9;have HG:=D;have k:=lh9 (zhl f c gb ga cb ca s Lb La w2 rb ra om9 db da (by rw [eb,ea];omega) hs);have a:=lh9 ra;have b:=lh9 hB;have g:=hB.size;clear rb ra hB;go_wp2_with fail;refine k.out.mono ?_;rintro e w3 ⟨v3,L3,rfl,r3,d3,e3,o3⟩;have ra:=ziL o3 a.out om9;have hB:=o3.below b.out g om9;have m:=HT.out.on hB;rw [eb,ea] at e3;have DR:=zmy f gb cb s L3 w3 r3 d3 hs m;rw [e3] at DR;have i:=lh9 DR;have a:=lh9 ra;have b:=lh9 hB;have o:=hB.size;clear r3 ra hB o3 m DR k;go_wp2_with fail;refine i.out.mono ?_;rintro e w4 (⟨h0,rfl,rfl⟩|⟨h0,L4,rfl,r4,d4,e4,o4⟩)
    ·have hG:Hid (Xa=G):=by
      have h:=HG.out;rw [show Xb=Xa from by omega,Nat.gcd_self] at h;exact h
     have HE:Hid (ziF w0 G (.returned (.slice (some ⟨ga,0,none⟩) s ca)) w3):=⟨_,_,_,La,rfl,a.out.reads,da,by rw [ea];exact hG.out,a.out.room.1,a.out.room.2,om9,b.out⟩;clear i hG a b;go_wp2;go_ret;exact HE.out
    ·have ra:=ziL o4 a.out om9;have hB:=o4.below b.out o om9;have hD:=zko h0 B D.out r.out;rw [<-e4] at hD;obtain⟨g1,g2,g3,g4⟩:=hD;have HE:Hid (DiffI w0 w4 n G (dv 18446744073709551616 L4+Xa) f c gb ga cb ca s L4 La):=⟨r4,ra,A,M,K,d4,da,g1,by rw [ea];exact r.out,by rw [ea];exact g2,by rw [ea],O,hB⟩;clear i r4 ra hB o4 e4 a b d4;go_wp2;go_roundg (dv 18446744073709551616 L4+Xa+1)
     case measure=>omega
     case rel=>exact⟨_,_,_,_,_,_,_,_,_,_,rfl,rfl,HE.out,om9⟩
   ·have hd:decide (Xa<Xb)=false:=by simpa using hlt
    have B:Xb<=Xa:=om9;have k:=lh9 (zhl c f ga gb ca cb s La Lb w2 ra rb om9 da db (by rw [ea,eb];omega) hs);have a:=lh9 rb;have b:=lh9 hB;have g:=hB.size;clear ra rb hB;go_wp2_with fail;refine k.out.mono ?_;rintro e w3 ⟨v3,L3,rfl,r3,d3,e3,o3⟩;have rb:=ziL o3 a.out om9;have hB:=o3.below b.out g om9;have m:=HT.out.on hB;rw [ea,eb] at e3;have DR:=zmy c ga ca s L3 w3 r3 d3 hs m;rw [e3] at DR;have i:=lh9 DR;have a:=lh9 rb;have b:=lh9 hB;have o:=hB.size;clear r3 rb hB o3 m DR k;go_wp2_with fail;refine i.out.mono ?_;rintro e w4 (⟨h0,rfl,rfl⟩|⟨h0,L4,rfl,r4,d4,e4,o4⟩)
    ·have hG:Hid (Xb=G):=by
      have h:=HG.out;rw [show Xa=Xb from by omega,Nat.gcd_self] at h;exact h
     have HE:Hid (ziF w0 G (.returned (.slice (some ⟨gb,0,none⟩) s cb)) w3):=⟨_,_,_,Lb,rfl,a.out.reads,db,by rw [eb];exact hG.out,a.out.room.1,a.out.room.2,om9,b.out⟩;clear i hG a b;go_wp2;go_ret;exact HE.out
    ·have rb:=ziL o4 a.out om9;have hB:=o4.below b.out o om9;have hD:=zko h0 B Q.out E.out;rw [<-e4] at hD;obtain⟨g1,g2,g3,g4⟩:=hD;have HE:Hid (DiffI w0 w4 n G (dv 18446744073709551616 L4+Xb) c f ga gb ca cb s L4 Lb):=⟨r4,rb,z,K,M,d4,db,g1,by rw [eb];exact E.out,by rw [eb];exact g2,by rw [eb],O,hB⟩;clear i r4 rb hB o4 e4 a b d4;go_wp2;go_roundg (dv 18446744073709551616 L4+Xb+1)
     case measure=>omega
     case rel=>exact⟨_,_,_,_,_,_,_,_,_,_,rfl,rfl,HE.out,om9⟩
def zdT (x:Nat):Nat:=x / 2^zbR x
theorem zex (x:Nat)(A:oA9)(n c:Nat)(w:World)(hA:zad w x A n c)(hn:n<=274877906944)(hT:zai w):
  Calls prog 198 #[.agg #[.slice A n c]] w (zaS w (zdT x)):=by
 have f:=up9 w (λw' hb=>zjB x A n c w' (hA.below hb) om9 (hT.on hb));have d:=up9 w (λw' hb=>show Calls _ _ _ _ (zaS w' (zdT x)) from zio x (zbR x) A n c w' (hA.below hb) om9);obtain⟨t,ht⟩:∃t,zbR x=t:=⟨_,rfl⟩;obtain⟨y,hy⟩:∃t,zdT x=t:=⟨_,rfl⟩;rw [ht] at f;rw [ht,hy] at d;rw [hy];clear hA hT ht hy;go_enter func198,ntmps198;go_wp2_with fail;obtain⟨hB,b2,b3,b5⟩:=zbO w 37 37 #[.slice A n c] #[.slice none 0 0];generalize hW:(w.alloc (.cells #[.slice A n c] 37)).alloc (.cells #[.slice none 0 0] 37)=W0 at*;have g1:W0.cell? ⟨w.heap.size,0,none⟩=some (.slice A n c):=b2.cell 0;clear hW b2 b5;have h:=hB.drew;have g0:W0.drew.cell? ⟨w.heap.size,0,none⟩=some (.slice A n c):=g1;have i:=b3.drew;clear hB g1 b3
 go_region_held3 (fun w' => Below w.heap.size w w' ∧ w'.cell? ⟨w.heap.size,0,none⟩ = some (.slice A n c))
  (first|(exact⟨h,g0⟩)|(go_split_ands;(repeat' apply And.intro);all_goals (first|exact as9|exact zaa as9 hb|exact zac hb as9|exact zae _ (by show w.heap.size<=w.heap.size+1;omega) as9|exact zag _ (by show w.heap.size≠w.heap.size+1;omega) as9)))
  (first
    |(go_at_call 199;(with_reducible refine(f.out _ (by first|exact as9|exact And.left as9)).mono ?_);rintro e w2 ⟨rfl,hb⟩;have b:=zab hb i)
    |(go_at_call 213;(with_reducible refine(d.out _ (by first|exact as9|exact And.left as9)).mono ?_);rintro e w3 ⟨A2,n2,c2,rfl,hw,hb,hf⟩;go_split_ands;have a:=zab hb b;have hc1:=a.cell 0;have hf1:=a.frozen 0;have g:Below w.heap.size w w3:=zaa as9 hb))
 have hsz:=g.size;have hz2:w.heap.size+1<w2.heap.size:=b.lt;have p4:zcl w3 (w.heap.size+1) (.slice none 0 0):=⟨_,a⟩;have r4:=(p4.set_ (.slice A2 n2 c2)).cell;have HG : Hid (zaS w y (.returned (.agg #[.slice A2 n2 c2])) (w3.setCell ⟨w.heap.size + 1,0,none⟩ (.slice A2 n2 c2))) :=
  zhj hw g (by show _<=_;simp) (λad e=>by have:=hf ad e;show ad.block≠_;simp;omega) (λad e=>by have:=hf ad e;omega) _
 clear hw hf a b p4;go_wp2;refine bodyPost_ret (v:=.agg #[.slice A2 n2 c2]) (by simp [results,results198,go_sem,r4]) rfl ?_;exact HG.out
theorem odd_cop {m Y:Nat}(hY:Y%2=1):∀t x:Nat,x=2^t*(2*m+1)->Nat.gcd (x / 2^t) Y=Nat.gcd x Y:=λt=>by
 induction t with
 |zero=>intro x _;rw [Nat.pow_zero,Nat.div_one]
 |succ t ih=>
   intro x hx;have e:x / 2=2^t*(2*m+1):=by rw [hx,Nat.pow_succ,Nat.mul_comm (2^t) 2,Nat.mul_assoc,Nat.mul_div_cancel_left _ de9]
   rw [Nat.pow_succ,Nat.mul_comm (2^t) 2,<-Nat.div_div_eq_div_mul,ih _ e];exact zgR (by rw [hx,Nat.pow_succ,Nat.mul_comm (2^t) 2,Nat.mul_assoc];exact Nat.mul_mod_right _ _) om9
theorem zlE (x:Nat):zdT x<=x:=Nat.div_le_self _ _
theorem zfU {x:Nat}(h:x≠0):zdT x%2=1:=by
 rcases tw_N x with⟨e,_⟩|⟨m,hm⟩
 ·exact absurd e h
 ·exact zlZ hm
theorem oddN_gcd {x Y:Nat}(hY:Y%2=1):Nat.gcd (zdT x) Y=Nat.gcd x Y:=by
 rcases tw_N x with⟨e,_⟩|⟨m,hm⟩
 ·rw [e];show Nat.gcd (0 / _) Y=_;rw [Nat.zero_div]
 ·exact odd_cop hY _ _ hm
theorem znh {X Y G:Nat}(h0:X%Y≠0)(hG:Nat.gcd X Y=G)(hY:Y%2=1):zdT (X%Y)%2=1/\Nat.gcd (zdT (X%Y)) Y=G/\zdT (X%Y)<=X%Y:=by
 refine⟨zfU h0,?_,zlE _⟩;rw [oddN_gcd hY,<-hG,Nat.gcd_comm X Y,Nat.gcd_rec Y X]
structure OddI (w wr:World)(p G S xa xb:Nat)(Aa Ab:oA9)(na ca nb cb:Nat):Prop where
 ka:zcl wr p (.slice Aa na ca)
 kb:zcl wr (p+1) (.slice Ab nb cb)
 kr:zcl wr (p+1+1) (.slice none 0 0)
 wa:zad wr xa Aa na ca
 wb:zad wr xb Ab nb cb
 oa:xa%2=1
 ob:xb%2=1
 gcd:Nat.gcd xa xb=G
 sum:xa+xb=S
 la:na<=1073741824
 lb:nb<=1073741824
 below:Below w.heap.size w wr
theorem gcd_odd (x y:Nat)(A D:oA9)(n m c d:Nat)(w:World)(hA:zad w x A n c)(hD:zad w y D m d)(hn:n<=1073741824)(hm:m<=1073741824)(hx:x%2=1)(hy:y%2=1)(hT:zai w):
  Calls prog 197 #[.agg #[.slice A n c],.agg #[.slice D m d]] w (zdf w (Nat.gcd x y)):=by
 have HT:=lh9 hT;have HA:=lh9 hA;have HD:=lh9 hD;obtain⟨G,hG⟩:∃g,Nat.gcd x y=g:=⟨_,rfl⟩;rw [hG];have R:=lh9 hG;clear hT hA hD hG;go_enter func197,ntmps197;go_wp2_with fail;obtain⟨b1,b2,b3,b4,b5⟩:=zbT w 37 37 37 #[.slice A n c] #[.slice D m d] #[.slice none 0 0];generalize hW:((w.alloc (.cells #[.slice A n c] 37)).alloc (.cells #[.slice D m d] 37)).alloc (.cells #[.slice none 0 0] 37)=W0 at*;obtain⟨p,hp⟩:∃p,w.heap.size=p:=⟨_,rfl⟩;have hpw:w.heap.size<=p:=om9;have H0:Hid (OddI w W0 p G (x+y) x y A D n c m d):=⟨by rw [<-hp];exact b2.one,by rw [<-hp];exact b3.one,by rw [<-hp];exact b4.one,HA.out.below b1,HD.out.below b1,hx,hy,R.out,rfl,hn,hm,b1⟩;rw [hp];clear hp hW b1 b2 b3 b4 b5 HA HD hx hy hn hm R
 go_loopg [5] (x+y+1) (λgg _ wr=>∃(S xa xb:Nat) (Aa Ab:oA9) (na ca nb cb:Nat),OddI w wr p G S xa xb Aa Ab na ca nb cb/\S<gg)
 case atStart=>exact⟨_,_,_,_,_,_,_,_,_,H0.out,om9⟩
 case round=>
  clear H0;obtain⟨S,xa,xb,Aa,Ab,na,ca,nb,cb,⟨k1,k2,k3,wa,wb,oa,ob,hG,hS,P,Q,a⟩,hgg⟩:=hrel;have HG:=lh9 hG;have T:=HG;have U:Hid (Nat.gcd xb xa=G):=by show _=_;rw [Nat.gcd_comm];exact hG
  have B:=lh9 oa;have F:=lh9 ob;have LA:=lh9 (λw'=>zbS xa Aa na ca w');have LB:=lh9 (λw'=>zbS xb Ab nb cb w');have r:=lh9 k1;have k:=lh9 k2;have i:=lh9 k3;have f:=lh9 a;have H:=lh9 wa;have l:=lh9 wb;have c1:wr.drew.cell? ⟨p,0,none⟩=some (.slice Aa na ca):=k1.cell;have c2:wr.drew.cell? ⟨p+1,0,none⟩=some (.slice Ab nb cb):=k2.cell;have K:Below wr.heap.size wr wr.drew:=(Below.refl _ wr).drew;clear k1 k2 k3 wa wb a oa ob hG;go_wp2_with fail
  go_region_held3 (fun w' => w'.cell? ⟨p,0,none⟩ = some (.slice Aa na ca) ∧ w'.cell? ⟨p + 1,0,none⟩ = some (.slice Ab nb cb) ∧ Below wr.heap.size wr w')
   (first|(exact⟨c1,c2,K⟩)|(go_split_ands;(repeat' apply And.intro);all_goals (first|exact as9|exact zac o as9|exact zaa as9 o)))
   (first|(go_at_call 147;(first|(with_reducible refine(LA.out _).mono ?_)|(with_reducible refine(LB.out _).mono ?_));rintro e w2 ⟨rfl,o⟩))
  rename_i hH
  obtain⟨c1,c2,t⟩:=hH;by_cases hl:na=nb
  ·subst hl;have O:((na:Int) !=(na:Int))=false:=si9;have WA:=up9 wr (λw' h=>zdD xa Aa na ca w' (H.out.below h) om9);have WB:=up9 wr (λw' h=>zdD xb Ab na cb w' (l.out.below h) om9);have ab:0<na:=by
    rcases Nat.eq_zero_or_pos na with e|e
    ·have h:=H.out.len;rw [e] at h;have h2:=zdF (b:=18446744073709551616) de9 xa;rw [List.eq_nil_of_length_eq_zero h] at h2;have:=B.out;simp [dv] at h2;omega
    ·exact e
   have L:=t.drew;have c1:w2.drew.cell? ⟨p,0,none⟩=some (.slice Aa na ca):=c1;have c2:w2.drew.cell? ⟨p+1,0,none⟩=some (.slice Ab na cb):=c2;have c1r:=r.out.cell;have c2r:=k.out.cell;have ai:=lh9 (HT.out.on f.out);have ag:=lh9 i.out;have f3:=i.out.frozen;have lt3:=i.out.lt;have af:=lh9 (fun(w5:World) (ga gb I J:Nat) (ra:zaq w5 160 ga I na (dg 18446744073709551616 xa)) (rb:zaq w5 160 gb J na (dg 18446744073709551616 xb)) (O:ga≠gb) (h1:wr.heap.size<=ga) (h2:wr.heap.size<=gb) (hb:Below wr.heap.size wr w5)=>
    gcd_diff wr 160 160 ga gb I J na G (dg 18446744073709551616 xa) (dg 18446744073709551616 xb) w5 ⟨ra,rb,O,h1,h2,zcY de9 _,zcY de9 _,by rw [zdF de9];exact B.out,by rw [zdF de9];exact F.out,by rw [zdF de9,zdF de9];exact HG.out,rfl,Nat.le_refl _,hb⟩ om9 ai.out)
   have ah:=lh9 (fun(w6:World) (A6:oA9) (m6 c6:Nat) (L6:List Nat) (h:zaw w6 w6.heap.size 1 A6 m6 (zaF .u64 L6)) (hd:Dgs 18446744073709551616 L6) (hv:dv 18446744073709551616 L6=G) (h1:m6<=c6) (h2:c6<=maxLen) (h3:m6<=1099511627776)=>
    show Calls prog 149 #[.slice A6 m6 c6] w6 (zaS w6 G) from hv▸zcZ A6 m6 c6 L6 w6 h hd h1 (by unfold maxLen at h2;omega) h3)
   clear t o;go_wp2_with fail
   go_region_held3 (fun w' => w'.cell? ⟨p,0,none⟩ = some (.slice Aa na ca) ∧ w'.cell? ⟨p + 1,0,none⟩ = some (.slice Ab na cb))
    (first|(exact⟨c1,c2⟩)|(go_split_ands;(repeat' apply And.intro);all_goals (first|exact as9|exact zac o as9|exact zaa as9 o|exact zae _ (by show wr.heap.size<=p+1+1;omega) as9|exact zag _ (by show p≠p+1+1;omega) as9|exact zag _ (by show p+1≠p+1+1;omega) as9)))
    (first
      |(go_at_call 146;(with_reducible refine(WA.out _ L).mono ?_);rintro e w4 ⟨v4,rfl,aw,o⟩;have Y:=zaa L o;obtain⟨ga,I,rfl,ao,ra⟩:=zaq.of_own aw ab)
      |(go_at_call 146;(with_reducible refine(WB.out _ Y).mono ?_);rintro e w5 ⟨v5,rfl,ax,o⟩;have am:=zaa Y o;obtain⟨gb,J,rfl,hgb,rb⟩:=zaq.of_own ax ab;have ae:=ra.keep o)
      |(go_at_call 212;(with_reducible refine(af.out w5 ga gb I J ae rb (by have h1:=ra.lt;omega) (Nat.le_trans L.size ao) (by have h1:=ra.lt;have h2:=L.size;omega) am).mono ?_);rintro e w6 ⟨A6,m6,c6,L6,rfl,u,aa,ac,aj,ak,al,o⟩;have Z:=o)
      |(go_at_call 149;(with_reducible refine(ah.out w6 A6 m6 c6 L6 u aa ac aj ak al).mono ?_);rintro e w7 ⟨A7,n7,c7,rfl,ad,o,an⟩;have N:=zaa Z o;have k7:=ag.out.keep N;have f7:=k7.frozen;have e7:=k7.cell))
   have r7:=(k7.set_ (.slice A7 n7 c7)).cell;have HE:Hid (zdf w G (.returned (.agg #[.slice A7 n7 c7])) (w7.setCell ⟨p+1+1,0,none⟩ (.slice A7 n7 c7))):=⟨_,_,_,rfl,zap ad k7 _,(zaa f.out N).setCell (p:=⟨p+1+1,0,none⟩) (by show w.heap.size<=p+1+1;omega) _⟩;clear k7 N o ad an Z u aa ac ae rb ra;go_wp2;refine bodyPost_ret (v:=.agg #[.slice A7 n7 c7]) (by simp [results,results197,go_sem,r7]) rfl ?_;exact HE.out
  ·have O:((na:Int) !=(nb:Int))=true:=by simp;omega
   have K:=t.drew;have V:w2.drew.cell? ⟨p,0,none⟩=some (.slice Aa na ca):=c1;have X:w2.drew.cell? ⟨p+1,0,none⟩=some (.slice Ab nb cb):=c2;clear t c1 c2;go_wp2_with fail
   go_region_held3 (fun w' => w'.cell? ⟨p,0,none⟩ = some (.slice Aa na ca) ∧ w'.cell? ⟨p + 1,0,none⟩ = some (.slice Ab nb cb) ∧ Below wr.heap.size wr w')
    (first|(exact⟨V,X,K⟩)|(go_split_ands;(repeat' apply And.intro);all_goals (first|exact as9|exact zac o as9|exact zaa as9 o)))
    (first|(go_at_call 147;(first|(with_reducible refine(LA.out _).mono ?_)|(with_reducible refine(LB.out _).mono ?_));rintro e w3 ⟨rfl,o⟩))
   rename_i hH
   obtain⟨c1,c2,t⟩:=hH;have k1:=r.out.keep t;have k2:=k.out.keep t;have k3:=i.out.keep t;have a:=zaa f.out t;have wa:=H.out.below t;have wb:=l.out.below t;clear o V X K r k i f H l LA LB t;by_cases hlt:na<nb
   ·have f1:=k1.frozen;have f2:=k2.frozen;have q1:=k1.set_ (.slice Ab nb cb);have q2:=(k2.far (p:=⟨p,0,none⟩) (by show p+1≠p;omega) (.slice Ab nb cb));have r1:=q1.far (p:=⟨p+1,0,none⟩) (by show p≠p+1;omega) (.slice Aa na ca);have r2:=q2.set_ (.slice Aa na ca);have r3:=(k3.far (p:=⟨p,0,none⟩) (by show p+1+1≠p;omega) (.slice Ab nb cb)).far (p:=⟨p+1,0,none⟩) (by show p+1+1≠p+1;omega) (.slice Aa na ca);have ra:=zap (zap wa k1 (.slice Ab nb cb)) q2 (.slice Aa na ca);have rb:=zap (zap wb k1 (.slice Ab nb cb)) q2 (.slice Aa na ca);have rB:=(a.setCell (p:=⟨p,0,none⟩) (by show w.heap.size<=p;omega) (.slice Ab nb cb)).setCell (p:=⟨p+1,0,none⟩) (by show w.heap.size<=p+1;omega) (.slice Aa na ca);have e1:=r1.cell;have e2:=r2.cell;have f3:=q2.frozen;have e3:=q2.cell;clear k1 k2 k3 wa wb a q1 q2;go_wp2_with fail;clear e1 e2 e3 f1 f2 f3 c1 c2;generalize (w3.setCell ⟨p,0,none⟩ (.slice Ab nb cb)).setCell ⟨p+1,0,none⟩ (.slice Aa na ca)=W at*;have k1:=r1;have k2:=r2;have k3:=r3;have wa:=ra;have wb:=rb;have a:=rB;clear r1 r2 r3 ra rb rB;have ar:xa<xb:=zjt (b:=18446744073709551616) de9 (by rw [wb.len,wa.len];omega);have M:xa≠0:=by have:=B.out;omega
    have MD:=lh9 (quotC.mod xb xa Ab Aa nb na cb ca W wb wa Q P M);have l:=lh9 wa;have r:=lh9 k1;have k:=lh9 k2;have i:=lh9 k3;have f:=lh9 a;have E:=wa.len;clear wa wb k1 k2 k3 a;refine MD.out.mono ?_;rintro e w3 ⟨A3,n3,c3,rfl,j,hb⟩;have k1:=r.out.keep hb;have k2:=k.out.keep hb;have k3:=i.out.keep hb;have a:=zaa f.out hb;have wa:=l.out.below hb;obtain⟨d1,d2,d3⟩:=zax w3 37 #[.slice A3 n3 c3];have k1:=k1.keep d1;have k2:=k2.keep d1;have k3:=k3.keep d1;have a:=zaa a d1;have wa:=wa.below d1;have j:=j.below d1;have k5:=d2.one;have g5:=k5.cell;have f1:=k1.frozen;have e1:=k1.cell;have ap:=k1.lt;have aq:=k3.lt;clear d1 d2 d3 hb r k i f l MD;by_cases hz:xb%xa=0
    ·have hG:Hid (xa=G):=by
      have h:=U.out;rw [Nat.gcd_comm,Nat.gcd_rec,hz,Nat.gcd_zero_left] at h;exact h
     have ZY:=lh9 (zes hz j);have k:=lh9 k2;have i:=lh9 k3;have f:=lh9 a;have l:=lh9 wa;clear k1 k2 k3 a wa j e1 f1;go_wp2_with fail;refine ZY.out.mono ?_;rintro e w4 ⟨rfl,hb⟩;have k2:=k.out.keep hb;have k3:=i.out.keep hb;have a:=zaa f.out hb;have wa:=l.out.below hb;have e2:=k2.cell;have e3:=k3.cell;have f3:=k3.frozen;have r4:=(k3.set_ (.slice Aa na ca)).cell;have HE:Hid (zdf w G (.returned (.agg #[.slice Aa na ca])) (w4.setCell ⟨p+1+1,0,none⟩ (.slice Aa na ca))):=⟨_,_,_,rfl,by rw [<-hG.out];exact zap wa k3 _,a.setCell (p:=⟨p+1+1,0,none⟩) (by show w.heap.size<=p+1+1;omega) _⟩;clear hG k i f l k2 k3 wa a hb;go_wp2;refine bodyPost_ret (v:=.agg #[.slice Aa na ca]) (by simp [results,results197,go_sem,r4]) rfl ?_;exact HE.out
    ·have ZN:=lh9 (zeG hz j);have C:=lh9 j;have r:=lh9 k1;have k:=lh9 k2;have i:=lh9 k3;have f:=lh9 a;have l:=lh9 wa;clear k1 k2 k3 a wa j e1 f1;go_wp2_with fail;refine ZN.out.mono ?_;rintro e w4 ⟨rfl,hb⟩;have g5:=zac hb g5;have j:=C.out.below hb;have a:=zaa f.out hb;have ay:xb%xa<xa:=Nat.mod_lt _ om9;have au:n3<=na:=by
      rw [<-j.len,<-E];exact zbY de9 om9
     have OP:=lh9 (zex _ A3 n3 c3 w4 j om9 (HT.out.on a));have z:=lh9 hb;clear j a C hb;go_wp2_with fail;refine OP.out.mono ?_;rintro e w5 ⟨A6,n6,c6,rfl,u,hb,_⟩;have s:=zaa z.out hb;have k1:=r.out.keep s;have k2:=k.out.keep s;have k3:=i.out.keep s;have a:=zaa f.out s;have wa:=l.out.below s;have hs:=znh hz U.out B.out;obtain⟨g1,g2,g3⟩:=hs;have av:n6<=na:=by
      rw [<-u.len,<-E];exact zbY de9 om9
     have HE : Hid (OddI w (w5.setCell ⟨p,0,none⟩ (.slice A6 n6 c6)) p G (zdT (xb % xa) + xa) (zdT (xb % xa)) xa A6 Aa n6 c6 na ca) :=
      ⟨k1.set_ _,k2.far (p:=⟨p,0,none⟩) (by show p+1≠p;omega) _,k3.far (p:=⟨p,0,none⟩) (by show p+1+1≠p;omega) _,zap u k1 _,zap wa k1 _,g1,B.out,g2,rfl,om9,P,a.setCell (p:=⟨p,0,none⟩) (by show w.heap.size<=p;omega) _⟩
     have e1:=k1.cell;have f1:=k1.frozen;clear k1 k2 k3 a wa u s z hb r k i f l g5;go_wp2;go_roundg (zdT (xb%xa)+xa+1)
     case measure=>omega
     case rel=>exact⟨_,_,_,_,_,_,_,_,_,HE.out,om9⟩
   ·clear c1 c2;have c1:=k1.cell;have c2:=k2.cell;go_wp2_with fail;obtain⟨W,hW⟩:∃x,x=w3:=⟨_,rfl⟩;subst hW;have ar:xb<xa:=zjt (b:=18446744073709551616) de9 (by rw [wa.len,wb.len];omega);have M:xb≠0:=by have:=F.out;omega
    have MD:=lh9 (quotC.mod xa xb Aa Ab na nb ca cb W wa wb P Q M);have l:=lh9 wb;have r:=lh9 k1;have k:=lh9 k2;have i:=lh9 k3;have f:=lh9 a;have E:=wb.len;clear wa wb k1 k2 k3 a;refine MD.out.mono ?_;rintro e w3 ⟨A3,n3,c3,rfl,j,hb⟩;have k1:=r.out.keep hb;have k2:=k.out.keep hb;have k3:=i.out.keep hb;have a:=zaa f.out hb;have wb:=l.out.below hb;obtain⟨d1,d2,d3⟩:=zax w3 37 #[.slice A3 n3 c3];have k1:=k1.keep d1;have k2:=k2.keep d1;have k3:=k3.keep d1;have a:=zaa a d1;have wb:=wb.below d1;have j:=j.below d1;have k5:=d2.one;have g5:=k5.cell;have f1:=k1.frozen;have e1:=k1.cell;have ap:=k1.lt;have aq:=k3.lt;clear d1 d2 d3 hb r k i f l MD;by_cases hz:xa%xb=0
    ·have hG:Hid (xb=G):=by
      have h:=T.out;rw [Nat.gcd_comm,Nat.gcd_rec,hz,Nat.gcd_zero_left] at h;exact h
     have ZY:=lh9 (zes hz j);have k:=lh9 k2;have i:=lh9 k3;have f:=lh9 a;have l:=lh9 wb;clear k1 k2 k3 a wb j e1 f1;go_wp2_with fail;refine ZY.out.mono ?_;rintro e w4 ⟨rfl,hb⟩;have k2:=k.out.keep hb;have k3:=i.out.keep hb;have a:=zaa f.out hb;have wb:=l.out.below hb;have e2:=k2.cell;have e3:=k3.cell;have f3:=k3.frozen;have r4:=(k3.set_ (.slice Ab nb cb)).cell;have HE:Hid (zdf w G (.returned (.agg #[.slice Ab nb cb])) (w4.setCell ⟨p+1+1,0,none⟩ (.slice Ab nb cb))):=⟨_,_,_,rfl,by rw [<-hG.out];exact zap wb k3 _,a.setCell (p:=⟨p+1+1,0,none⟩) (by show w.heap.size<=p+1+1;omega) _⟩;clear hG k i f l k2 k3 wb a hb;go_wp2;refine bodyPost_ret (v:=.agg #[.slice Ab nb cb]) (by simp [results,results197,go_sem,r4]) rfl ?_;exact HE.out
    ·have ZN:=lh9 (zeG hz j);have C:=lh9 j;have r:=lh9 k1;have k:=lh9 k2;have i:=lh9 k3;have f:=lh9 a;have l:=lh9 wb;clear k1 k2 k3 a wb j e1 f1;go_wp2_with fail;refine ZN.out.mono ?_;rintro e w4 ⟨rfl,hb⟩;have g5:=zac hb g5;have j:=C.out.below hb;have a:=zaa f.out hb;have ay:xa%xb<xb:=Nat.mod_lt _ om9;have au:n3<=nb:=by
      rw [<-j.len,<-E];exact zbY de9 om9
     have OP:=lh9 (zex _ A3 n3 c3 w4 j om9 (HT.out.on a));have z:=lh9 hb;clear j a C hb;go_wp2_with fail;refine OP.out.mono ?_;rintro e w5 ⟨A6,n6,c6,rfl,u,hb,_⟩;have s:=zaa z.out hb;have k1:=r.out.keep s;have k2:=k.out.keep s;have k3:=i.out.keep s;have a:=zaa f.out s;have wb:=l.out.below s;have hs:=znh hz T.out F.out;obtain⟨g1,g2,g3⟩:=hs;have av:n6<=nb:=by
      rw [<-u.len,<-E];exact zbY de9 om9
     have HE : Hid (OddI w (w5.setCell ⟨p,0,none⟩ (.slice A6 n6 c6)) p G (zdT (xa % xb) + xb) (zdT (xa % xb)) xb A6 Ab n6 c6 nb cb) :=
      ⟨k1.set_ _,k2.far (p:=⟨p,0,none⟩) (by show p+1≠p;omega) _,k3.far (p:=⟨p,0,none⟩) (by show p+1+1≠p;omega) _,zap u k1 _,zap wb k1 _,g1,F.out,g2,rfl,om9,Q,a.setCell (p:=⟨p,0,none⟩) (by show w.heap.size<=p;omega) _⟩
     have e1:=k1.cell;have f1:=k1.frozen;clear k1 k2 k3 a wb u s z hb r k i f l g5;go_wp2;go_roundg (zdT (xa%xb)+xb+1)
     case measure=>omega
     case rel=>exact⟨_,_,_,_,_,_,_,_,_,HE.out,om9⟩
theorem zoh (x k:Nat)(A:oA9)(n c:Nat)(w:World)(hA:zad w x A n c)(hn:n<=137438953472)(hk:k<=1099511627776):
  Calls prog 196 #[.agg #[.slice A n c],.int .i64 k] w (zaS w (2^k*x)):=by
 obtain⟨i0,H,L,N,O⟩:=info_parts zgD;have hsz:Sz (n+1) (2^(k%64)*x):=Sz.shl' (M:=1) (show Sz n x by have h:=zbP (b:=18446744073709551616) de9 x;rw [hA.len] at h;exact h) om9;have HS:=up9 w (λw' hb=>zpF x (k%64) A n c w' (hA.below hb) om9 om9);have HV:Hid (18446744073709551616^(k / 64)*(2^(k%64)*x)=2^k*x):=by show _=_;rw [<-Nat.mul_assoc,kpow]
 obtain⟨q,hq⟩:∃q,k / 64=q:=⟨_,rfl⟩;obtain⟨r,hr⟩:∃r,k%64=r:=⟨_,rfl⟩;have ag:(k:Int) / 64=(q:Int):=om9;have ah:(k:Int)%64=(r:Int):=om9;have hqt:(k:Int).tdiv 64=(q:Int):=by rw [Int.tdiv_eq_ediv_of_nonneg om9];exact ag
 have hrt:(k:Int).tmod 64=(r:Int):=by rw [Int.tmod_eq_emod_of_nonneg om9];exact ah
 have hqk:q<=17179869184:=om9;have hqw:IntKind.i64.wrap (q:Int)=(q:Int):=IntWalk.i64_in _ om9;have hrw:IntKind.i64.wrap (r:Int)=(r:Int):=IntWalk.i64_in _ om9;rw [hq,hr] at HV;rw [hr] at HS hsz;obtain⟨y,hy⟩:∃y,2^r*x=y:=⟨_,rfl⟩;obtain⟨X,hX⟩:∃y,2^k*x=y:=⟨_,rfl⟩;rw [hy] at HS hsz;rw [hy,hX] at HV;rw [hX];have ab:=lh9 hsz;have HW:=lh9 (λw' A' n' c' (h:zad w' y A' n' c') (hb:n'<=1099511627776)=>zdD y A' n' c' w' h hb);obtain⟨Z,hZ⟩:∃Z,madeCells (Value.cells (.int .u64 0)) q=Z:=⟨_,rfl⟩;have hmk:∀W:World,(Instr.makeSlice 35 (.int .i64 (q:Int)) (.int .i64 (q:Int))).run prog W=.ok (.slice (some ⟨W.heap.size,0,none⟩) q q) (W.alloc (.cells Z 160)):=λW=>by
  have h:=zbf _ _ i0 _ underlying35 H L .i64 .i64 q q (Nat.le_refl _) (by rw [O];omega) om9 W;rw [N,Nat.mul_one,hZ] at h;exact h
 have HM:Hid (∀W:World,zaq (W.alloc (.cells Z 160)) 160 W.heap.size q q (List.replicate q 0)):=λW=>by
  have h:=zaq.made W 160 q (by unfold maxLen;omega);rw [hZ] at h;exact h
 clear hZ hA hq hr hy hX hsz;go_enter func196,ntmps196;go_wp2_with fail;obtain⟨b1,b2,b3,b5⟩:=zbO w 37 37 #[.slice A n c] #[.slice none 0 0];generalize hW:(w.alloc (.cells #[.slice A n c] 37)).alloc (.cells #[.slice none 0 0] 37)=W0 at*;clear hW b2;refine(HS.out _ b1).mono ?_;rintro e w1 ⟨A1,n1,c1,rfl,J,hb,U⟩;have hB:=zaa b1 hb;have o:=zab hb b3;clear hb b1 b3 b5 U HS;obtain⟨d1,d2,d5⟩:=zax w1 37 #[.slice A1 n1 c1];have hB:=zaa hB d1;have o:=zab d1 o;have K:=J.below d1;have g5:(w1.alloc (.cells #[.slice A1 n1 c1] 37)).cell? ⟨w1.heap.size,0,none⟩=some (.slice A1 n1 c1):=d2.cell 0;have hn1:n1<=n+1:=by have h:=J.len;rw [<-h];exact zcH de9 _ _ ab.out
 have hl4:=o.lt;clear d1 d2 d5 J;go_wp2_with fail;generalize hW:w1.alloc (.cells #[.slice A1 n1 c1] 37)=W at*;obtain⟨z,hz⟩:∃z,w1.heap.size=z:=⟨_,rfl⟩;rw [hz] at g5⊢;clear hW hz;have hbw:=hB.size;have G0:W.drew.cell? ⟨z,0,none⟩=some (.slice A1 n1 c1):=g5;have G1:(W.alloc (.cells Z 160)).cell? ⟨z,0,none⟩=some (.slice A1 n1 c1):=zam _ g5;have G2:(W.alloc (.cells Z 160)).drew.cell? ⟨z,0,none⟩=some (.slice A1 n1 c1):=G1;have R:=lh9 K;have Y:Hid ((dg 18446744073709551616 y).length=n1):=K.len;have Q:=lh9 (zdF (b:=18446744073709551616) de9 y);have P:=lh9 (zcY (b:=18446744073709551616) de9 y);obtain⟨D,hD⟩:∃D,dg 18446744073709551616 y=D:=⟨_,rfl⟩;rw [hD] at HW Y Q P;clear K hD;have af:=HW.out W A1 n1 c1 R.out om9;have WD:∀w',Hid (Below W.heap.size W w')->Calls prog 146 #[.agg #[.slice A1 n1 c1]] w' (zfG w' n1 (zaF .u64 D)):=λw' h=>HW.out w' A1 n1 c1 (R.out.below h.out) om9;have ac:=lh9 WD;have E:Hid (Below W.heap.size W W.drew):=(Below.refl _ W).drew;have F:Hid (Below W.heap.size W (W.alloc (.cells Z 160)).drew):=((Below.refl _ W).alloc (Nat.le_refl _) _).drew;have ae:Hid (zaq (W.alloc (.cells Z 160)).drew 160 W.heap.size q q (List.replicate q 0)):=(HM.out W).drew;have aa:=lh9 (fun(w':World) (A':oA9) (c':Nat) (h:zaw w' w'.heap.size 1 A' (q+n1) (zaF .u64 (List.replicate q 0++D))) (h1:q+n1<=c') (h2:c'<=9223372036854775807)=>
  show Calls prog 149 #[.slice A' (q+n1:Nat) c'] w' (zaS w' X) from by
   have h:=zcZ A' (q+n1) c' (List.replicate q 0++D) w' h ((Dgs.zeros de9 q).append P.out) h1 h2 om9;rw [zbA,zeT,List.length_replicate,Q.out,Nat.zero_add,HV.out] at h;exact h)
 clear WD af
 go_region_law (first
  |(refine zfE _ rfl (.tmp 16) (.tmp 18) 35 rfl W.heap.size 160 i0 (.int .u64 0) 1 8 underlying35 H L N O rfl de9 (.slice (some ⟨W.heap.size,0,none⟩) q q) q (zaF .u64 (List.replicate q 0)) rfl ((ae.out.keep m).own (Nat.le_refl _)) w3.heap.size A3 n1 c3 (zaF .u64 D) rfl I (zhF _ _) (by unfold maxLen;omega) om9 d.size ?_;intro v4 w4 f a t;have l:Below W.heap.size W w4:=d.grown a d.size (λg e=>by cases e;exact Nat.le_refl _);obtain⟨A4,c4,rfl,u,B,j⟩:=zaw.of_grown_own f;rw [<-zeE] at j)
  |(refine zfE _ rfl (.tmp 16) (.tmp 18) 35 rfl W.heap.size 160 i0 (.int .u64 0) 1 8 underlying35 H L N O rfl de9 (.slice (some ⟨w3.heap.size,0,none⟩) q q) q (zaF .u64 (List.replicate q 0)) rfl ((HM.out w3).own d.size) w3.heap.size A3 n1 c3 (zaF .u64 D) rfl (I.alloc (Nat.le_refl _) _) (zhF _ _) (by unfold maxLen;omega) om9 (by have:=d.size;simp;omega) ?_;intro v4 w4 f a t;have l:Below W.heap.size W w4:=(zaj _ d).grown a (by have:=d.size;simp;omega) (λg e=>by cases e;exact d.size);obtain⟨A4,c4,rfl,u,B,j⟩:=zaw.of_grown_own f;rw [<-zeE] at j)
  |(go_simp;go_at_call 146;refine(ac.out _ (by first|exact E|exact F)).mono ?_;rintro e w3 ⟨v3,rfl,i,m⟩;obtain⟨A3,c3,rfl,hc3a,hc3b,I⟩:=zaw.of_grown_own i;have d:Below W.heap.size W w3:=(by first|exact E.out.trans (m.mono E.out.size)|exact F.out.trans (m.mono F.out.size)))
  |(go_simp;go_at_call 149;refine(aa.out w4 A4 c4 j u (by unfold maxLen at B;omega)).mono ?_;rintro e w5 ⟨A5,n5,c5,rfl,V,T,G⟩;have C:Below W.heap.size W w5:=zaa l T;have s:=zab C o;have hc1:=s.cell 0;have U:=s.frozen 0))
 all_goals
  have hs5:=l.size
  have p4:zcl w5 (w.heap.size+1) (.slice none 0 0):=⟨_,s⟩
  have r4:=(p4.set_ (.slice A5 n5 c5)).cell
  have S:=zaa hB C
  have HG : Hid (zaS w X (.returned (.agg #[.slice A5 n5 c5])) (w5.setCell ⟨w.heap.size + 1,0,none⟩ (.slice A5 n5 c5))) :=
   zhj V S (by show _<=_;simp) (λad e=>by have:=G ad e;show ad.block≠_;simp;omega) (λad e=>by have:=G ad e;omega) _
  clear V G s p4 S C T l j f a t I i m d
  go_wp2
  refine bodyPost_ret (v:=.agg #[.slice A5 n5 c5]) (by simp [results,results196,go_sem,r4]) rfl ?_
  exact HG.out
theorem zlr {a b:Nat}(ha:a%2=1):∀k,Nat.gcd (2^k*b) a=Nat.gcd b a
 |0=>by rw [Nat.pow_zero,Nat.one_mul]
 |k+1=>by
   have h:=zgR (p:=2^(k+1)*b) (q:=a) (by rw [Nat.pow_succ,Nat.mul_comm (2^k) 2,Nat.mul_assoc];exact Nat.mul_mod_right _ _) om9;rw [<-h,Nat.pow_succ,Nat.mul_comm (2^k) 2,Nat.mul_assoc,Nat.mul_div_cancel_left _ de9];exact zlr ha k
theorem zng {x:Nat}(h:x≠0):2^zbR x*zdT x=x:=by
 rcases tw_N x with⟨e,_⟩|⟨m,hm⟩
 ·exact absurd e h
 ·unfold zdT;exact Nat.mul_div_cancel' ⟨2*m+1,hm⟩
theorem gcd_twos {x y:Nat}(hx:x≠0)(hy:y≠0):2^min (zbR x) (zbR y)*Nat.gcd (zdT x) (zdT y)=Nat.gcd x y:=by
 have ex:=zng hx;have ey:=zng hy;have ox:=zfU hx;have oy:=zfU hy;obtain⟨s,hs⟩:∃s,zbR x=s:=⟨_,rfl⟩;obtain⟨t,ht⟩:∃s,zbR y=s:=⟨_,rfl⟩;rw [hs] at ex⊢;rw [ht] at ey⊢;rcases Nat.le_total s t with h|h
 ·obtain⟨d,rfl⟩:∃d,t=s+d:=⟨t - s,om9⟩;rw [Nat.min_eq_left h]
  conv=>rhs;rw [<-ex,<-ey,Nat.pow_add,Nat.mul_assoc,Nat.gcd_mul_left,Nat.gcd_comm,zlr ox,Nat.gcd_comm]
 ·obtain⟨d,rfl⟩:∃d,s=t+d:=⟨s - t,om9⟩;rw [Nat.min_eq_right h]
  conv=>rhs;rw [<-ex,<-ey,Nat.pow_add,Nat.mul_assoc,Nat.gcd_mul_left,zlr oy]
theorem zjW {x n:Nat}(h:(dg 18446744073709551616 x).length=n):zbR x<=64*n:=by
 rcases tw_N x with⟨_,e⟩|⟨m,hm⟩
 ·omega
 ·have h1:=zbP (b:=18446744073709551616) de9 x;rw [h,show(18446744073709551616:Nat)=2^64 from rfl,<-Nat.pow_mul] at h1;have h2:2^zbR x<=x:=by
   conv=>rhs;rw [hm]
   exact Nat.le_mul_of_pos_right _ om9
  rcases Nat.lt_or_ge (64*n) (zbR x) with h3|h3
  ·have:=Nat.pow_le_pow_right (n:=2) de9 (Nat.le_of_lt h3);omega
  ·exact h3
theorem gcd_of (x y:Nat)(A D:oA9)(n m c d:Nat)(w:World)(hA:zad w x A n c)(hD:zad w y D m d)(hn:n<=1073741824)(hm:m<=1073741824)(hT:zai w):
  Calls prog 159 #[.agg #[.slice A n c],.agg #[.slice D m d]] w (zdf w (Nat.gcd x y)):=by
 obtain⟨G,hG⟩:∃g,Nat.gcd x y=g:=⟨_,rfl⟩;rw [hG];have HG:=lh9 hG;clear hG;have u:=lh9 hA.len;have B:=lh9 hD.len;obtain⟨ux,bx,HU,hu⟩:∃(ux:Nat) (bx:Bool),Hid (∀w',Below w.heap.size w w'->Calls prog 162 #[.agg #[.slice A n c]] w' λe V=>e=.returned (.tuple #[.int .u64 ux,.bool bx])/\Below w'.heap.size w' V)/\((n<=1/\bx=true/\ux=wd x 0)\/(1<n/\bx=false)):=by
  by_cases h:n<=1
  ·exact⟨_,_,λw' hb=>zdj x A n c w' (hA.below hb) h,.inl ⟨h,rfl,rfl⟩⟩
  ·exact⟨0,_,λw' hb=>zcT A n c w' om9,.inr ⟨om9,rfl⟩⟩
 obtain⟨uy,bY,HV,hv⟩:∃(ux:Nat) (bx:Bool),Hid (∀w',Below w.heap.size w w'->Calls prog 162 #[.agg #[.slice D m d]] w' λe V=>e=.returned (.tuple #[.int .u64 ux,.bool bx])/\Below w'.heap.size w' V)/\((m<=1/\bx=true/\ux=wd y 0)\/(1<m/\bx=false)):=by
  by_cases h:m<=1
  ·exact⟨_,_,λw' hb=>zdj y D m d w' (hD.below hb) h,.inl ⟨h,rfl,rfl⟩⟩
  ·exact⟨0,_,λw' hb=>zcT D m d w' om9,.inr ⟨om9,rfl⟩⟩
 go_enter func159,ntmps159;go_wp2_with fail;obtain⟨b1,b2,b3,b4,b5⟩:=zbT w 37 37 37 #[.slice A n c] #[.slice D m d] #[.slice none 0 0];generalize hW:((w.alloc (.cells #[.slice A n c] 37)).alloc (.cells #[.slice D m d] 37)).alloc (.cells #[.slice none 0 0] 37)=W0 at*;obtain⟨p,hp⟩:∃p,w.heap.size=p:=⟨_,rfl⟩;have hpw:w.heap.size<=p:=om9;have g1:W0.cell? ⟨p,0,none⟩=some (.slice A n c):=by rw [<-hp];exact b2.cell 0
 have g2:W0.cell? ⟨p+1,0,none⟩=some (.slice D m d):=by rw [<-hp];exact b3.cell 0
 have F:Hid (zcl W0 (p+1+1) (.slice none 0 0)):=by rw [<-hp];exact b4.one
 have HB:=lh9 b1;have o:=lh9 (hA.below b1);have r:=lh9 (hD.below b1);have K:=lh9 (hT.on b1);refine(HU.out _ b1).mono ?_;rw [hp];clear hp hW b2 b3 b4 b5 hA hD hT b1;rintro e w1 ⟨rfl,hb⟩;obtain⟨g1,g2⟩:=zac2 hb g1 g2;have S:=hb;clear hb;go_wp2_with fail;refine(HV.out _ (zaa HB.out S)).mono ?_;rintro e w2 ⟨rfl,hb⟩;obtain⟨g1,g2⟩:=zac2 hb g1 g2;have C:=zaa S hb;clear hb S HU HV;by_cases hboth:n<=1/\m<=1
 ·obtain⟨h1,h2⟩:=hboth;rcases hu with⟨_,rfl,hux⟩|⟨h,_⟩
  ·rcases hv with⟨_,rfl,huy⟩|⟨h,_⟩
   ·have lx:x<18446744073709551616:=by
     have h:=zbP (b:=18446744073709551616) de9 x;exact Nat.lt_of_lt_of_le h (by rw [u.out];exact Nat.pow_le_pow_right de9 h1)
    have ly:y<18446744073709551616:=by
     have h:=zbP (b:=18446744073709551616) de9 y;exact Nat.lt_of_lt_of_le h (by rw [B.out];exact Nat.pow_le_pow_right de9 h2)
    have ex:ux=x:=by rw [hux];unfold wd;rw [Nat.pow_zero,Nat.div_one,Nat.mod_eq_of_lt lx]
    have ey:uy=y:=by rw [huy];unfold wd;rw [Nat.pow_zero,Nat.div_one,Nat.mod_eq_of_lt ly]
    subst ex ey;have GW:=lh9 (λw'=>zku ux uy w' lx ly);rw [HG.out] at GW;have lG:Hid (G<18446744073709551616):=by
     show _<_;rw [<-HG.out];rcases Nat.eq_zero_or_pos ux with e|e
     ·rw [e,Nat.gcd_zero_left];exact ly
     ·exact Nat.lt_of_le_of_lt (Nat.gcd_le_left _ e) lx
    clear hux huy lx ly u B;go_wp2_with fail;refine(GW.out _).mono ?_;rintro e w3 ⟨rfl,hb⟩;have i:=zaa C hb;have NO:=lh9 (fun(W:World)=>show Calls prog 149 #[.slice (some ⟨W.heap.size,0,none⟩) 1 1] (W.alloc (.cells #[.int .u64 (G:Int)] 160)) (zaS (W.alloc (.cells #[.int .u64 (G:Int)] 160)) G) from by
     have h:=zcZ (some ⟨W.heap.size,0,none⟩) 1 1 [G] (W.alloc (.cells #[.int .u64 (G:Int)] 160)) (zpP W _ G).reads (by intro d hd;simp at hd;have:=lG.out;omega) (Nat.le_refl _) om9 om9;rw [show dv 18446744073709551616 [G]=G by simp [dv]] at h;exact h)
    clear hb C;go_wp2_with fail;refine(NO.out _).mono ?_;rintro e w5 ⟨A5,n5,c5,rfl,l,hb,_⟩;have f:=zaa (zaj _ i) hb;clear i hb;have k5:=F.out.keep (w':=w5) f;have f5:=k5.frozen;have e5:=k5.cell;have r5:=(k5.set_ (.slice A5 n5 c5)).cell;have HE:Hid (zdf w G (.returned (.agg #[.slice A5 n5 c5])) (w5.setCell ⟨p+1+1,0,none⟩ (.slice A5 n5 c5))):=⟨_,_,_,rfl,zap l k5 _,(zaa HB.out f).setCell (p:=⟨p+1+1,0,none⟩) (by show w.heap.size<=p+1+1;omega) _⟩;clear k5 l f;go_wp2;refine bodyPost_ret (v:=.agg #[.slice A5 n5 c5]) (by simp [results,results159,go_sem,r5]) rfl ?_;exact HE.out
   ·omega
  ·omega
 ·by_cases hx:x=0
  ·have af:=up9 W0 (λw' h=>show Calls _ _ _ _ (zfA w' (dg 18446744073709551616 G).length (zaF .u64 (dg 18446744073709551616 G))) from by
    have e:y=G:=by rw [<-HG.out,hx,Nat.gcd_zero_left]
    rw [<-e];exact zds y D m d w' (r.out.below h) om9)
   have ad:Hid ((dg 18446744073709551616 G).length<=1099511627776):=by
    show _<=_;rw [<-HG.out,hx,Nat.gcd_zero_left,B.out];omega
   have ZA:=lh9 (zes hx (o.out.below C));have L:bx=true/\bY=false\/bx=false/\bY=true\/bx=false/\bY=false:=by
    rcases hu with⟨_,rfl,_⟩|⟨_,rfl⟩<;>rcases hv with⟨_,rfl,_⟩|⟨_,rfl⟩<;>first|(exfalso;omega)|simp
   clear hu hv hboth u B o r;rcases L with⟨rfl,rfl⟩|⟨rfl,rfl⟩|⟨rfl,rfl⟩
   all_goals
    go_wp2_with fail
    refine ZA.out.mono ?_
    rintro e w3 ⟨rfl,hb⟩
    have g2:=zac hb g2
    have i:=zaa C hb
    clear hb
    go_wp2_with fail
    refine(af.out _ i).mono ?_
    rintro e w4 ⟨A4,c4,rfl,O,M,⟨N,_⟩,hb⟩
    have H:=zaa i hb
    have NO:=zcZ A4 _ c4 (dg 18446744073709551616 G) w4 O (zcY de9 _) M N ad.out
    rw [zdF de9] at NO
    have J:=lh9 NO
    obtain⟨len,E⟩:∃len,(dg 18446744073709551616 G).length=len:=⟨_,rfl⟩
    rw [E] at J⊢
    clear NO O M N hb E
    go_wp2_with fail
    refine J.out.mono ?_
    rintro e w5 ⟨A5,n5,c5,rfl,l,hb,_⟩
    have f:=zaa H hb
    have k5:=F.out.keep (w':=w5) f
    have f5:=k5.frozen
    have e5:=k5.cell
    have r5:=(k5.set_ (.slice A5 n5 c5)).cell
    have HE:Hid (zdf w G (.returned (.agg #[.slice A5 n5 c5])) (w5.setCell ⟨p+1+1,0,none⟩ (.slice A5 n5 c5))):=⟨_,_,_,rfl,zap l k5 _,(zaa HB.out f).setCell (p:=⟨p+1+1,0,none⟩) (by show w.heap.size<=p+1+1;omega) _⟩
    clear k5 l f
    go_wp2
    refine bodyPost_ret (v:=.agg #[.slice A5 n5 c5]) (by simp [results,results159,go_sem,r5]) rfl ?_
    exact HE.out
  ·by_cases hy:y=0
   ·have ae:=up9 W0 (λw' h=>show Calls _ _ _ _ (zfA w' (dg 18446744073709551616 G).length (zaF .u64 (dg 18446744073709551616 G))) from by
     have e:x=G:=by rw [<-HG.out,hy,Nat.gcd_zero_right]
     rw [<-e];exact zds x A n c w' (o.out.below h) om9)
    have ac:Hid ((dg 18446744073709551616 G).length<=1099511627776):=by
     show _<=_;rw [<-HG.out,hy,Nat.gcd_zero_right,u.out];omega
    have ZA:=lh9 (zeG hx (o.out.below C));have ZB:=up9 W0 (λw' h=>zes hy (r.out.below h));have L:bx=true/\bY=false\/bx=false/\bY=true\/bx=false/\bY=false:=by
     rcases hu with⟨_,rfl,_⟩|⟨_,rfl⟩<;>rcases hv with⟨_,rfl,_⟩|⟨_,rfl⟩<;>first|(exfalso;omega)|simp
    clear hu hv hboth u B o r;rcases L with⟨rfl,rfl⟩|⟨rfl,rfl⟩|⟨rfl,rfl⟩
    all_goals
     go_wp2_with fail
     refine ZA.out.mono ?_
     rintro e ag ⟨rfl,hb⟩
     obtain⟨g1,g2⟩:=zac2 hb g1 g2
     have j:=zaa C hb
     clear hb
     go_wp2_with fail
     refine(ZB.out _ j).mono ?_
     rintro e w3 ⟨rfl,hb⟩
     have g1:=zac hb g1
     have i:=zaa j hb
     clear hb j
     go_wp2_with fail
     refine(ae.out _ i).mono ?_
     rintro e w4 ⟨A4,c4,rfl,O,M,⟨N,_⟩,hb⟩
     have H:=zaa i hb
     have NO:=zcZ A4 _ c4 (dg 18446744073709551616 G) w4 O (zcY de9 _) M N ac.out
     rw [zdF de9] at NO
     have J:=lh9 NO
     obtain⟨len,E⟩:∃len,(dg 18446744073709551616 G).length=len:=⟨_,rfl⟩
     rw [E] at J⊢
     clear NO O M N hb E
     go_wp2_with fail
     refine J.out.mono ?_
     rintro e w5 ⟨A5,n5,c5,rfl,l,hb,_⟩
     have f:=zaa H hb
     have k5:=F.out.keep (w':=w5) f
     have f5:=k5.frozen
     have e5:=k5.cell
     have r5:=(k5.set_ (.slice A5 n5 c5)).cell
     have HE:Hid (zdf w G (.returned (.agg #[.slice A5 n5 c5])) (w5.setCell ⟨p+1+1,0,none⟩ (.slice A5 n5 c5))):=⟨_,_,_,rfl,zap l k5 _,(zaa HB.out f).setCell (p:=⟨p+1+1,0,none⟩) (by show w.heap.size<=p+1+1;omega) _⟩
     clear k5 l f
     go_wp2
     refine bodyPost_ret (v:=.agg #[.slice A5 n5 c5]) (by simp [results,results159,go_sem,r5]) rfl ?_
     exact HE.out
   ·have ZA:=lh9 (zeG hx (o.out.below C));have ZB:=up9 W0 (λw' h=>zeG hy (r.out.below h));have PA:=up9 W0 (λw' h=>zex x A n c w' (o.out.below h) om9 (K.out.on h));have PB:=up9 W0 (λw' h=>zex y D m d w' (r.out.below h) om9 (K.out.on h));have TA:=up9 W0 (λw' h=>zjB x A n c w' (o.out.below h) om9 (K.out.on h));have TB:=up9 W0 (λw' h=>zjB y D m d w' (r.out.below h) om9 (K.out.on h));have tx:=zjW u.out;have ty:=zjW B.out;have lx:=zbY (b:=18446744073709551616) de9 (zlE x);have ly:=zbY (b:=18446744073709551616) de9 (zlE y);rw [u.out] at lx;rw [B.out] at ly;have ox:=zfU hx;have oy:=zfU hy;have R:Hid (2^min (zbR x) (zbR y)*Nat.gcd (zdT x) (zdT y)=G):=by show _=_;rw [gcd_twos hx hy];exact HG.out
    have lg:(dg 18446744073709551616 (Nat.gcd (zdT x) (zdT y))).length<=n:=Nat.le_trans (zbY de9 (Nat.gcd_le_left _ om9)) lx;obtain⟨s,hs⟩:∃s,zbR x=s:=⟨_,rfl⟩;obtain⟨t,ht⟩:∃s,zbR y=s:=⟨_,rfl⟩;obtain⟨X,hX⟩:∃s,zdT x=s:=⟨_,rfl⟩;obtain⟨Y,hY⟩:∃s,zdT y=s:=⟨_,rfl⟩;rw [hs] at TA tx;rw [ht] at TB ty;rw [hX] at PA lx ox;rw [hY] at PB ly oy;rw [hs,ht,hX,hY] at R;rw [hX,hY] at lg;obtain⟨g,hg⟩:∃s,Nat.gcd X Y=s:=⟨_,rfl⟩;obtain⟨k,hk⟩:∃z,min s t=z:=⟨_,rfl⟩;rw [hg,hk] at R;rw [hg] at lg;have aa:k<=1099511627776:=om9;have q1:(if (t:Int)<(s:Int) then(t:Int) else(s:Int))=(k:Int):=by split<;>omega
    have q6:(if t<s then(t:Int) else(s:Int))=(k:Int):=by split<;>omega
    have q2:(if t<s then t else s)=k:=by split<;>omega
    have q3:(if (s:Int)<=(t:Int) then(s:Int) else(t:Int))=(k:Int):=by split<;>omega
    have q4:(if (s:Int)<(t:Int) then(s:Int) else(t:Int))=(k:Int):=by split<;>omega
    have q5:(if s<t then s else t)=k:=by split<;>omega
    have OO:=lh9 (fun (w' : World) (A1 A2 : oA9) (n1 n2 c1 c2 : Nat) (h1 : zad w' X A1 n1 c1) (h2 : zad w' Y A2 n2 c2) (h : Below W0.heap.size W0 w') => show Calls prog 197 #[.agg #[.slice A1 n1 c1],.agg #[.slice A2 n2 c2]] w' (zdf w' g) from
     hg▸gcd_odd X Y A1 A2 n1 n2 c1 c2 w' h1 h2 (by rw [<-h1.len];omega) (by rw [<-h2.len];omega) ox oy (K.out.on h))
    have RA:=lh9 (fun (w' : World) (A1 : oA9) (n1 c1 : Nat) (h1 : zad w' g A1 n1 c1) => show Calls prog 196 #[.agg #[.slice A1 n1 c1],.int .i64 (k : Int)] w' (zaS w' G) from
     R.out▸zoh g k A1 n1 c1 w' h1 (by rw [<-h1.len];omega) aa)
    have L:bx=true/\bY=false\/bx=false/\bY=true\/bx=false/\bY=false:=by
     rcases hu with⟨_,rfl,_⟩|⟨_,rfl⟩<;>rcases hv with⟨_,rfl,_⟩|⟨_,rfl⟩<;>first|(exfalso;omega)|simp
    clear hu hv hboth u B o r hs ht hX hY hg hk tx ty lx ly ox oy lg aa;have f3:=F.out.frozen;have lt3:=F.out.lt;rcases L with⟨rfl,rfl⟩|⟨rfl,rfl⟩|⟨rfl,rfl⟩
    all_goals
     go_wp2_with fail
     refine ZA.out.mono ?_
     rintro e ag ⟨rfl,hb⟩
     obtain⟨g1,g2⟩:=zac2 hb g1 g2
     have j:=zaa C hb
     clear hb
     go_wp2_with fail
     refine(ZB.out _ j).mono ?_
     rintro e w3 ⟨rfl,hb⟩
     obtain⟨g1,g2⟩:=zac2 hb g1 g2
     have i:=zaa j hb
     clear hb j
     have i:=i.drew
     have g1:w3.drew.cell? ⟨p,0,none⟩=some (.slice A n c):=g1
     have g2:w3.drew.cell? ⟨p+1,0,none⟩=some (.slice D m d):=g2
     go_wp2_with fail
     go_region_held3 (fun w' => w'.cell? ⟨p,0,none⟩ = some (.slice A n c) ∧ w'.cell? ⟨p + 1,0,none⟩ = some (.slice D m d))
      (first|(exact⟨g1,g2⟩)|(go_split_ands;(repeat' apply And.intro);all_goals (first|exact as9|exact zac a as9|exact zag _ (by show p≠p+1+1;omega) as9|exact zag _ (by show p+1≠p+1+1;omega) as9)))
      (first
        |(go_at_call 198;(with_reducible refine(PA.out _ i).mono ?_);rintro e w4 ⟨A4,n4,c4,rfl,Q,a,_⟩;have H:=zaa i a)
        |(go_at_call 198;(with_reducible refine(PB.out _ H).mono ?_);rintro e w5 ⟨A5,n5,c5,rfl,l,a,_⟩;have f:=zaa H a;have Q:=Q.below a)
        |(go_at_call 197;(with_reducible refine(OO.out w5 A4 A5 n4 n5 c4 c5 Q l f).mono ?_);rintro e w6 ⟨A6,n6,c6,rfl,I,a⟩;have T:=zaa f a)
        |(go_at_call 199;(with_reducible refine(TA.out _ T).mono ?_);rintro e w7 ⟨rfl,a⟩;have U:=zaa T a;have I:=I.below a)
        |(go_at_call 199;(with_reducible refine(TB.out _ U).mono ?_);rintro e w8 ⟨rfl,a⟩;have Z:=zaa U a;have I:=I.below a)
        |(go_at_call 196;(with_reducible refine(RA.out w8 A6 n6 c6 I).mono ?_);rintro e w9 ⟨A9,n9,c9,rfl,ab,a,_⟩;have P:=zaa Z a;have k9:=F.out.keep P;have f9:=k9.frozen;have e9:=k9.cell))
     clear f9 e9 k9 a I l Q Z U T f H
     have k5:=F.out.keep (w':=w9) P
     have f5:=k5.frozen
     have e5:=k5.cell
     have r5:=(k5.set_ (.slice A9 n9 c9)).cell
     have HE:Hid (zdf w G (.returned (.agg #[.slice A9 n9 c9])) (w9.setCell ⟨p+1+1,0,none⟩ (.slice A9 n9 c9))):=⟨_,_,_,rfl,zap ab k5 _,(zaa HB.out P).setCell (p:=⟨p+1+1,0,none⟩) (by show w.heap.size<=p+1+1;omega) _⟩
     clear k5 ab P
     go_wp2
     refine bodyPost_ret (v:=.agg #[.slice A9 n9 c9]) (by simp [results,results159,go_sem,r5]) rfl ?_
     exact HE.out
