/- What this claim leans on. -/
import Derived.Test.YtipmllfnpldbdaaGreatDoorYBunE
import Derived.BigQuiet
import Derived.Deep.CutBlock
import Derived.Deep.DeepCutAuto
import Derived.Deep.RegionHeld3
set_option linter.unusedVariables false
set_option linter.unusedSimpArgs false
namespace Go.Proofs.YtipmllfnpldbdaaGreatDoor
open Go Go.RowKit Go.Proofs.Tryz
set_option maxHeartbeats 16000000
set_option maxRecDepth 100000
theorem Zh (x:Int)(w:World):Calls prog 105 #[.int .i64 x] w λe w'=>e=.returned (.bool false)/\w=w':=by
 go_enter func105,ntmps105;go_wp2;go_ret;exact⟨zD,rfl⟩
theorem Zi (x:Int)(w:World):Calls prog 106 #[.int .u64 x] w λe w'=>e=.returned (.bool false)/\w=w':=by
 go_enter func106,ntmps106;go_wp2;go_ret;exact⟨zD,rfl⟩
theorem Yo (x y:Nat)(w:World):Calls prog 87 #[.int .i64 x,.int .i64 y] w λe w'=>e=.returned (.int .i64 (yt x y))/\w=w':=by
 have C:x<y/\zg (yt x y= -1)\/y<x/\zg (yt x y=1)\/¬ x<y/\¬ y<x/\zg (yt x y=0):=by
  rcases yB x y with h|h|h
  ·exact .inl ⟨h,oJ h⟩
  ·exact .inr (.inr ⟨za,za,mN h⟩)
  ·exact .inr (.inl ⟨h,nT h⟩)
 rcases C with⟨h,H⟩|⟨h,H⟩|⟨h,h',H⟩
 all_goals
  go_enter func87,ntmps87
  go_wp2_with fail
  refine(Zh _ _).mono ?_
  rintro e w' ⟨rfl,rfl⟩
  go_wp2_with fail
  refine(Zh _ _).mono ?_
  rintro e w' ⟨rfl,rfl⟩
  go_wp2
  go_ret
  exact⟨by rw [H.o];rfl,rfl⟩
theorem Yq (x y:Nat)(w:World):Calls prog 88 #[.int .u64 x,.int .u64 y] w λe w'=>e=.returned (.int .i64 (yt x y))/\w=w':=by
 have C:x<y/\zg (yt x y= -1)\/y<x/\zg (yt x y=1)\/¬ x<y/\¬ y<x/\zg (yt x y=0):=by
  rcases yB x y with h|h|h
  ·exact .inl ⟨h,oJ h⟩
  ·exact .inr (.inr ⟨za,za,mN h⟩)
  ·exact .inr (.inl ⟨h,nT h⟩)
 rcases C with⟨h,H⟩|⟨h,H⟩|⟨h,h',H⟩
 all_goals
  go_enter func88,ntmps88
  go_wp2_with fail
  refine(Zi _ _).mono ?_
  rintro e w' ⟨rfl,rfl⟩
  go_wp2_with fail
  refine(Zi _ _).mono ?_
  rintro e w' ⟨rfl,rfl⟩
  go_wp2
  go_ret
  exact⟨by rw [H.o];rfl,rfl⟩
def wF (w:World)(z:Int)(e:Ending)(w':World):Prop:=e=.returned (.int .i64 z)/\Below w.heap.size w w'
theorem Vb (x y:Nat)(A D:zf)(m c d:Nat)(w:World)(hA:zp w x A m c)(hD:zp w y D m d)(hm:m<=1099511627776):
  Calls prog 51 #[.agg #[.slice A m c],.agg #[.slice D m d]] w (wF w (yt x y)):=by
 have u:=hA.len;have t:=hD.len;have H0:zg (x / 18446744073709551616^m=y / 18446744073709551616^m):=by
  show _=_;rw [xJ (by rw [<-u];exact yx zh x),xJ (by rw [<-t];exact yx zh y)]
 have B:=hA.1;have E:=hD.1;clear u t hA hD;go_enter func51,ntmps51;go_wp2_with fail;have z:Below w.heap.size w ((w.alloc (.cells #[.slice A m c] 56)).alloc (.cells #[.slice D m d] 56)).drew:=(((qY _ w).alloc (qX _) _).alloc zD _).drew
 go_region_held3 (fun w' => Below w.heap.size w w' ∧ w'.cell? ⟨w.heap.size,0,none⟩ = some (.slice A m c) ∧ w'.cell? ⟨w.heap.size + 1,0,none⟩ = some (.slice D m d))
  (first|go_keep|(go_split_ands;exact⟨ze (by assumption) hb,zq hb (by first|assumption|simp),zq hb (by first|assumption|simp)⟩))
  (first
    |(go_at_call 86;refine(wN x _ _ _ _).mono ?_;rintro e w' ⟨rfl,hb⟩))
 rename_i hH
 obtain⟨hB,h1,h2⟩:=hH;clear hb;go_wp2_with fail;refine(wN x _ _ _ _).mono ?_;rintro e w2 ⟨rfl,a⟩;have v:=ze hB a;have g1:=zq a h1;have g2:=zq a h2;clear hB a h1 h2 z;go_wp2_with fail
 go_loopg [5,6] (m+1) (λg i _ wr=>∃(k:Nat),k<=m/\i=.int .i64 ((k:Int) - 1)/\zg (x / 18446744073709551616^k=y / 18446744073709551616^k)/\k<g/\Below w.heap.size w wr/\wr.cell? ⟨w.heap.size,0,none⟩=some (.slice A m c)/\wr.cell? ⟨w.heap.size+1,0,none⟩=some (.slice D m d))
 case atStart=>exact⟨m,qX _,rfl,H0,Nat.lt_succ_self _,v,g1,g2⟩
 case round=>
  obtain⟨k,hk,rfl,H,hg,hB,g1,g2⟩:=hrel;have rA:=B.below hB;have rD:=E.below hB;by_cases hk0:k=0
  ·subst hk0;have C:=zd (mN (x:=x) (y:=y) (by have:=H.o;simpa using this));go_wp2;go_ret;exact⟨by rw [C.o];rfl,hB⟩
  ·obtain⟨j,rfl⟩:∃j,k=j+1:=⟨k - 1,za⟩;obtain⟨ad,rfl,hadb,h1⟩:=ug rA (k:=j) za;obtain⟨ae,rfl,haeb,h2⟩:=ug rD (k:=j) za;rw [rM] at h1 h2;have L1:=zd (λh=>fc (b:=18446744073709551616) H.o h);have L2:=zd (λh=>fc (b:=18446744073709551616) H.o.symm h);have L3:=zd (λh=>oV (b:=18446744073709551616) H.o h);obtain⟨p,hp⟩:∃p,wd x j=p:=⟨_,rfl⟩;obtain⟨r,hr⟩:∃p,wd y j=p:=⟨_,rfl⟩;unfold wd at hp hr;rw [hp,hr] at L1 L2 L3;rw [show wd x j=p from hp] at h1;rw [show wd y j=r from hr] at h2;clear hp hr;have CC:=zd (λw=>Yq p r w);have K:(yt p r= -1/\zg (yt x y= -1))\/(yt p r=0/\zg (x / 18446744073709551616^j=y / 18446744073709551616^j))\/(yt p r=1/\zg (yt x y=1)):=by
    rcases yB p r with h|h|h
    ·exact .inl ⟨oJ h,oJ (L1.o h)⟩
    ·exact .inr (.inl ⟨mN h,L3.o h⟩)
    ·exact .inr (.inr ⟨nT h,nT (L2.o h)⟩)
   clear L1 L2 L3;rcases K with⟨e,C⟩|⟨e,M⟩|⟨e,C⟩
   ·rw [e] at CC;clear e;go_wp2_with fail;have s1:(0:Int)<=(j:Int):=za;have s2:(j:Int)<(m:Int):=za
    go_quiet ((go_at_call 88;exact mD (CC.o _)))
    go_wp2;go_ret;exact⟨by rw [C.o];rfl,ie hB _⟩
   ·rw [e] at CC;clear e;go_wp2_with fail;have s1:(0:Int)<=(j:Int):=za;have s2:(j:Int)<(m:Int):=za
    go_quiet ((go_at_call 88;exact mD (CC.o _)))
    go_wp2;go_roundg (j+1)
    case measure=>omega
    case rel=>exact⟨j,za,by go_num,M,za,ie hB _,g1,g2⟩
   ·rw [e] at CC;clear e;go_wp2_with fail;have s1:(0:Int)<=(j:Int):=za;have s2:(j:Int)<(m:Int):=za
    go_quiet ((go_at_call 88;exact mD (CC.o _)))
    go_wp2;go_ret;exact⟨by rw [C.o];rfl,ie hB _⟩
theorem nX (x y:Nat)(A D:zf)(n m c d:Nat)(w:World)(hA:zp w x A n c)(hD:zp w y D m d)(hn:n<=1099511627776)(hm:m<=1099511627776):
  Calls prog 51 #[.agg #[.slice A n c],.agg #[.slice D m d]] w (wF w (yt x y)):=by
 have i:=hA.len;have g:=hD.len;by_cases hne:n=m
 ·subst hne;exact Vb x y A D n c d w hA hD hn
 ·have C:yt n m=yt x y:=by
   rcases yB n m with h|h|h
   ·rw [oJ h,oJ (kj (b:=18446744073709551616) zh za)]
   ·exact absurd h hne
   ·rw [nT h,nT (kj (b:=18446744073709551616) zh za)]
  have hne':((n:Int)==(m:Int))=false:=by simp;omega
  have CC:∀w,Calls prog 87 #[.int .i64 n,.int .i64 m] w λe w'=>e=.returned (.int .i64 (yt x y))/\w=w':=λw=>by rw [<-C];exact Yo n m w
  have HC:=zd CC;obtain⟨z,hz⟩:∃z,yt x y=z:=⟨_,rfl⟩;rw [hz] at HC⊢;clear i g hne C CC hz;go_enter func51,ntmps51;go_wp2_with fail;have a:Below w.heap.size w ((w.alloc (.cells #[.slice A n c] 56)).alloc (.cells #[.slice D m d] 56)).drew:=(((qY _ w).alloc (qX _) _).alloc zD _).drew
  go_region_held3 (fun w' => Below w.heap.size w w' ∧ w'.cell? ⟨w.heap.size,0,none⟩ = some (.slice A n c) ∧ w'.cell? ⟨w.heap.size + 1,0,none⟩ = some (.slice D m d))
   (first|go_keep|(go_split_ands;exact⟨ze (by assumption) hb,zq hb (by first|assumption|simp),zq hb (by first|assumption|simp)⟩))
   (first
     |(go_at_call 86;refine(wN x _ _ _ _).mono ?_;rintro e w' ⟨rfl,hb⟩))
  rename_i hH
  obtain⟨hB,h1,h2⟩:=hH;clear hb a;go_wp2_with fail;have a:Below w.heap.size w w'.drew:=hB.drew
  go_region_held3 (fun w' => Below w.heap.size w w' ∧ w'.cell? ⟨w.heap.size,0,none⟩ = some (.slice A n c) ∧ w'.cell? ⟨w.heap.size + 1,0,none⟩ = some (.slice D m d))
   (first|go_keep|(go_split_ands;exact⟨ze (by assumption) hb,zq hb (by first|assumption|simp),zq hb (by first|assumption|simp)⟩))
   (first
     |(go_at_call 86;refine(wN x _ _ _ _).mono ?_;rintro e w' ⟨rfl,hb⟩)
     |(go_at_call 87;refine(HC.o _).mono ?_;rintro e w' ⟨rfl,rfl⟩))
  obtain⟨hB,h1,h2⟩:=‹Below w.heap.size w _/\_›;go_wp2;go_ret;exact⟨rfl,hB⟩
set_option maxRecDepth 100000 in
theorem VW (hi lo y:Int)(h0:0<hi)(h1:hi<y)(hy:y<18446744073709551616)(hl:Wd lo)(w:World):
  Calls prog 156 #[.int .u64 hi,.int .u64 lo,.int .u64 y] w λe w'=>e=.returned (.tuple #[.int .u64 (xF hi lo y),.int .u64 (x4 hi lo y)])/\w=w':=by
 obtain⟨O,P⟩:=hl;have H:=zd (tK y (by unfold Wd;omega) w);obtain⟨s,X,hs,a,x⟩:=bC y za hy;rw [X] at H;clear X;obtain⟨d,g,v⟩:=qi hi lo y s hs za h1 O P;have j:=tu (hi*18446744073709551616+lo) y (2^s) (Int.pow_pos zh);obtain⟨Y,G⟩:∃Y,y*2^s=Y:=⟨_,rfl⟩;have B:lo / 2^(64 - s)<2^s:=by
  refine Int.ediv_lt_of_lt_mul (Int.pow_pos zh) ?_;rw [<-Int.pow_add,show s+(64 - s)=64 from by omega];simpa using P
 have z:0<=lo / 2^(64 - s):=yP O (Int.le_of_lt (Int.pow_pos zh));have ad:0<=hi*2^s:=YQ za (Int.le_of_lt (Int.pow_pos zh));have Q:=pt hi (lo / 2^(64 - s)) s za za z B hs;have aa:IntKind.u64.wrap (hi*2^s)=hi*2^s:=by rw [QL];omega
 obtain⟨U,E⟩:∃U,hi*2^s+lo / 2^(64 - s)=U:=⟨_,rfl⟩;obtain⟨V,F⟩:∃V,lo*2^s%18446744073709551616=V:=⟨_,rfl⟩;have hV:0<=V/\V<18446744073709551616:=za;have E1:zg (IntKind.u64.wrap (y*2^s)=Y):=by rw [G,QL];show _%_=_;omega
 have E3:zg (bits .or .u64 (IntKind.u64.wrap (hi*2^s)) (lo / 2^(64 - s))=U):=by rw [aa,Q];exact E
 have E4:zg (IntKind.u64.wrap (lo*2^s)=V):=by rw [QL];exact F
 have E2:zg (bits .and .u64 Y 4294967295=Y%4294967296):=and_low32 Y za za;have E5:zg (bits .and .u64 V 4294967295=V%4294967296):=and_low32 V za za;rw [G] at a x g j;rw [E] at d g v;rw [F] at v;obtain⟨hV0,hV1⟩:=hV;have i:=oX U V Y d g;have D1:=vi.start (u:=V / 4294967296) d g a x za za;have b1:=D1.low;have b2:=D1.q_hi;have b3:=D1.sum;have I:0<=U / (Y / 4294967296):=yP d za;have R:0<=U / (Y / 4294967296)*(Y / 4294967296):=YQ I za;have hA:2147483648<=Y / 4294967296:=za;have S:U - U / (Y / 4294967296)*(Y / 4294967296)<4294967296:=by
  have hm:=XZ U (Y / 4294967296);have af:=yU U (show 0<Y / 4294967296 by omega);rw [XG] at hm;omega
 have M:=ml (U:=U) (u:=V / 4294967296) (Y:=Y) d g za za;have bT:=jB (U:=U) (u:=V / 4294967296) (Y:=Y) za;have e6:=aV (U:=U) (u:=V / 4294967296) (Y:=Y) za x;obtain⟨Q1,D⟩:∃q,xg U (V / 4294967296) Y=q:=⟨_,rfl⟩;obtain⟨T,hT⟩:∃q,xv U (V / 4294967296) Y=q:=⟨_,rfl⟩;rw [hT] at bT e6 i;rw [D] at M e6 i;obtain⟨m,t⟩:=bT;obtain⟨hQ10,hQ11⟩:=M;have D2:=vi.start (u:=V%4294967296) m t a x za za;have c1:=D2.low;have c2:=D2.q_hi;have ag:0<=T / (Y / 4294967296):=yP m za;have hp1:0<=T / (Y / 4294967296)*(Y / 4294967296):=YQ ag za;have Z:T - T / (Y / 4294967296)*(Y / 4294967296)<4294967296:=by
  have hm:=XZ T (Y / 4294967296);have af:=yU T (show 0<Y / 4294967296 by omega);rw [XG] at hm;omega
 have L:=ml (U:=T) (u:=V%4294967296) (Y:=Y) m t za za;have N:=jB (U:=T) (u:=V%4294967296) (Y:=Y) za;have e7:=aV (U:=T) (u:=V%4294967296) (Y:=Y) za x;obtain⟨Q0,C⟩:∃q,xg T (V%4294967296) Y=q:=⟨_,rfl⟩;obtain⟨T0,A⟩:∃q,xv T (V%4294967296) Y=q:=⟨_,rfl⟩;rw [A] at N e7 i;rw [C] at L e7 i;obtain⟨hT00,hT01⟩:=N;obtain⟨hQ00,hQ01⟩:=L;have E6:zg (IntKind.u64.wrap (IntKind.u64.wrap (IntKind.u64.wrap (U*4294967296)+V / 4294967296) - IntKind.u64.wrap (Q1*Y))=T):=by
  rw [QL,QL,QL,QL];exact e6
 have E7:zg (IntKind.u64.wrap (IntKind.u64.wrap (IntKind.u64.wrap (T*4294967296)+V%4294967296) - IntKind.u64.wrap (Q0*Y))=T0):=by
  rw [QL,QL,QL,QL];exact e7
 have FQ:zg (Q1*4294967296+Q0=xF hi lo y):=by
  unfold xF;show _=_;rw [i.1,v];exact j.1
 have FR:zg (T0 / 2^s=x4 hi lo y):=by
  unfold x4;show _=_;rw [i.2,v];exact j.2
 have ab:=zd D1;have ac:=zd D2;have K:=zd D;have J:=zd C;clear j v i G E F Q aa b3 D1 D2 B z ad e6 e7 D C hT A;have z1:(y==0)=false:=beq_eq_false_iff_ne.2 za;have z2:(hi==0)=false:=beq_eq_false_iff_ne.2 za;have z3:decide (y<=hi)=false:=by simp;omega
 go_enter func156,ntmps156;go_upto_block 0 with(first|(go_at_call 157;refine H.o.mono ?_;rintro e w' ⟨rfl,rfl⟩)|simp only [E1.o,E2.o,E3.o,E4.o,E5.o]);clear E1 E2 E3 E4 E5 H
 go_cut [15,16] (λq _ wc=>q=.int .u64 Q1/\wc=w)
 case first=>
  go_wp2_with fail
  go_loopg [15,16] 4294967298 (λk q r wr=>∃q0 r0:Int,q=.int .u64 q0/\r=.int .u64 r0/\vi U (V / 4294967296) Y q0 r0/\r0<4294967296/\q0<k/\wr=w)
  case atStart=>exact⟨_,_,rfl,rfl,ab.o,S,za,rfl⟩
  case round=>
   obtain⟨q,r,rfl,rfl,hd,hr,hk,rfl⟩:=hrel;obtain⟨g0,g1,g2,g3,g4⟩:=hd.room d g za za hr;by_cases ht:4294967296<=q\/4294967296*r+V / 4294967296<q*(Y%4294967296)
   ·have h:=hd.down d g a za za ht;have I:=(ml (U:=U) (u:=V / 4294967296) (Y:=Y) d g za za).1;have ae:=h.q_lo;have ah:=hd.q_hi;have R:1<=q:=za;go_wp2
    all_goals first
     |(go_meet;exact⟨congrArg (Value.int .u64) ((h.past a za za za).trans K.o),rfl⟩)
     | (go_roundg (gk - 1)
        case measure=>omega
        case rel=>exact⟨_,_,rfl,rfl,h,za,za,rfl⟩)
   ·go_wp2;go_meet;exact⟨congrArg (Value.int .u64) ((hd.done a za).trans K.o),rfl⟩
 case rest=>
  obtain⟨rfl,rfl⟩:=hcut;go_upto_block 2 with(simp only [E6.o]);clear E6
  go_cut [18,16] (λq _ wd=>q=.int .u64 Q0/\wd=wc)
  case first=>
   go_wp2_with fail
   go_loopg [18,16] 4294967298 (λk q r wr=>∃q0 r0:Int,q=.int .u64 q0/\r=.int .u64 r0/\vi T (V%4294967296) Y q0 r0/\r0<4294967296/\q0<k/\wr=wc)
   case atStart=>exact⟨_,_,rfl,rfl,ac.o,Z,za,rfl⟩
   case round=>
    obtain⟨q,r,rfl,rfl,hd,hr,hk,rfl⟩:=hrel;obtain⟨g0,g1,g2,g3,g4⟩:=hd.room m t za za hr;by_cases ht:4294967296<=q\/4294967296*r+V%4294967296<q*(Y%4294967296)
    ·have h:=hd.down m t a za za ht;have I:=(ml (U:=T) (u:=V%4294967296) (Y:=Y) m t za za).1;have ae:=h.q_lo;have ah:=hd.q_hi;have R:1<=q:=za;go_wp2
     all_goals first
      |(go_meet;exact⟨congrArg (Value.int .u64) ((h.past a za za za).trans J.o),rfl⟩)
      | (go_roundg (gk - 1)
         case measure=>omega
         case rel=>exact⟨_,_,rfl,rfl,h,za,za,rfl⟩)
    ·go_wp2;go_meet;exact⟨congrArg (Value.int .u64) ((hd.done a za).trans J.o),rfl⟩
  case rest=>
   obtain⟨rfl,rfl⟩:=hcut;go_wp2_with (simp only [E7.o]);simp only [FQ.o,FR.o]
   go_ret2
   exact⟨rfl,rfl⟩
theorem Yr (lo y:Int)(h1:0<y)(hy:y<18446744073709551616)(hl:Wd lo)(w:World):
  Calls prog 156 #[.int .u64 0,.int .u64 lo,.int .u64 y] w λe w'=>e=.returned (.tuple #[.int .u64 (xF 0 lo y),.int .u64 (x4 0 lo y)])/\∃n,w'=w.drewN n:=by
 obtain⟨a,d⟩:=hl;have z1:(y==0)=false:=beq_eq_false_iff_ne.2 za;have z3:decide (y<=0)=false:=by simp;omega
 have q0:0<=lo / y:=yP a za;have q1:lo / y<18446744073709551616:=Int.lt_of_le_of_lt (Int.ediv_le_self y a) d;have r0:0<=lo%y:=yO _ za;have r1:lo%y<18446744073709551616:=Int.lt_trans (yU _ h1) hy;have FQ:zg (lo / y=xF 0 lo y):=by unfold xF;show _=_;simp
 have FR:zg (lo%y=x4 0 lo y):=by unfold x4;show _=_;simp
 go_enter func156,ntmps156;go_wp2
 go_quiet (fail)
 go_wp2;simp only [FQ.o,FR.o]
 go_ret2
 exact⟨rfl,_,rfl⟩
theorem ll (hi lo y:Int)(h0:Wd hi)(h1:hi<y)(hy:y<18446744073709551616)(hl:Wd lo)(w:World):
  Calls prog 156 #[.int .u64 hi,.int .u64 lo,.int .u64 y] w λe w'=>e=.returned (.tuple #[.int .u64 (xF hi lo y),.int .u64 (x4 hi lo y)])/\∃n,w'=w.drewN n:=by
 by_cases hz:hi=0
 ·subst hz;exact Yr lo y h1 hy hl w
 ·refine(VW hi lo y (by have:=h0.1;omega) h1 hy hl w).mono ?_;rintro e w' ⟨rfl,rfl⟩;exact⟨rfl,0,rfl⟩
theorem Y3 (hi lo y:Int)(h0:Wd hi)(h1:hi<y)(hy:y<18446744073709551616)(hl:Wd lo)(w:World):
  Calls prog 150 #[.int .u64 hi,.int .u64 lo,.int .u64 y] w λe w'=>e=.returned (.tuple #[.int .u64 (xF hi lo y),.int .u64 (x4 hi lo y),.bool true])/\∃n,w'=w.drewN n:=by
 have H:=zd (ll hi lo y h0 h1 hy hl w);have z1:decide (y<=hi)=false:=by simp;omega
 go_enter func150,ntmps150;go_wp2_with (go_at_call 156;refine H.o.mono ?_;rintro e w' ⟨rfl,n,rfl⟩)
 go_ret3
 exact⟨rfl,n,rfl⟩
theorem Xj (hi lo y:Int)(h1:y<=hi)(w:World):
  Calls prog 150 #[.int .u64 hi,.int .u64 lo,.int .u64 y] w λe w'=>e=.returned (.tuple #[.int .u64 0,.int .u64 0,.bool false])/\w=w':=by
 have z1:decide (y<=hi)=true:=by simp;omega
 go_enter func150,ntmps150;go_wp2
 go_ret3
 exact⟨rfl,rfl⟩
