/- What this claim leans on. -/
import Derived.Test.YtipmllfnpldbdaaGreatDoorFPAwake
import Derived.Test.YtipmllfnpldbdaaGreatDoorFPMake
set_option linter.unusedVariables false
set_option linter.unusedSimpArgs false
namespace Go.Proofs.YtipmllfnpldbdaaGreatDoor
open Go Go.RowKit Go.Proofs.Tryz
set_option maxHeartbeats 16000000
set_option maxRecDepth 100000
variable {c n:Nat}{W:World}{A:zf}
theorem py (r s:Rat):vz (r - s)=xp r s:=by
 unfold vz vA xp;by_cases h:r<s
 ·have h1:(r - s).num<0:=(cH _).2 (by grind);rw [if_pos h1,if_pos h]
 ·have h1:¬(r - s).num<0:=λh2=>h (by have:=(cH _).1 h2;grind);rw [if_neg h1,if_neg h];by_cases h3:r=s
  ·rw [if_pos h3,h3,Rat.sub_self];rfl
  ·have h4:¬(r - s).num=0:=λh5=>h3 (by have:=Rat.num_eq_zero.1 h5;grind);rw [if_neg h4,if_neg h3]
def ri (ok:Bool)(kd c:Int):Bool:=ok&&((decide (kd=1)&&decide (c<=0))||(decide (kd=2)&&decide (0<=c))||(decide (kd=3)&&decide (c=0)))
theorem td (r s:Rat):decide (r - s=0)=decide (xp r s=0):=by
 unfold xp;by_cases h:r<s
 ·rw [if_pos h,decide_eq_false (by intro h2;grind),decide_eq_false zh]
 ·rw [if_neg h];by_cases h3:r=s
  ·rw [if_pos h3,decide_eq_true (by grind),decide_eq_true rfl]
  ·rw [if_neg h3,decide_eq_false (by intro h2;grind),decide_eq_false zh]
theorem WP (p:PR)(x:List Rat):wH p x=ri (decide (p.co.length=x.length)) p.kd (xp (wk p.co x) p.rhs):=by
 unfold wH ri;by_cases h:p.co.length=x.length
 ·have e1:wT p x=xF p.co x - p.rhs:=by unfold wT;rw [if_pos h]
  have e2:wk p.co x=xF p.co x:=by unfold wk;rw [if_pos h]
  rw [e1,e2,py,td];by_cases k1:p.kd=1
  ·simp [k1]
  ·by_cases k2:p.kd=2
   ·simp [k2]
   ·by_cases k3:p.kd=3
    ·simp [k3]
    ·simp [k1,k2,k3]
 ·simp [h]
theorem so {R:Nat->vv}(h:sN W A n c R):mG 1 (wm R n):=λp hp=>by
 obtain⟨r,hr,rfl⟩:=List.mem_map.1 hp;have h1:=(h.row r (List.mem_range.1 hr)).1;exact⟨iJ h1.co,se h1.p.1 h1.p.2 h1.q.1 h1.q.2⟩
theorem Yv {R:Nat->vv}(h:sN W A n c R):lR 1048576 (wm R n):=λp hp=>by
 obtain⟨r,hr,rfl⟩:=List.mem_map.1 hp;have h1:=(h.row r (List.mem_range.1 hr)).1;show(zR (R r).L).length<=_;rw [nw,h1.co.len];exact qA h1.co.fits h1.co.small
theorem rp (A0:zf)(n0 c0:Nat)(L0:List (Int×Int))(B0:zf)(m0 e0:Nat)(R0:Nat->vv)(A1:zf)(n1 c1:Nat)(L1:List (Int×Int))(w:World)(h0:wW w A0 n0 c0 L0)(k0:sN w B0 m0 e0 R0)(h1:wW w A1 n1 c1 L1)(hT:zu w):
  Calls prog 5 #[.agg #[.slice A0 n0 c0,.slice B0 m0 e0],.slice A1 n1 c1] w λe w'=>e=.returned (.bool true)/\Below w.heap.size w w':=by
 obtain⟨bc,bd,bz⟩:=zF w 68 #[.slice A0 n0 c0,.slice B0 m0 e0];obtain⟨g0,g1⟩:=bd.c2;have HB:=zd bc;have HT:=zd (λW (hb:Below w.heap.size w W)=>hT.on hb);have a5:=zd (λW (hb:Below w.heap.size w W)=>Y6 (hT.on hb) (h0.below hb) (k0.below hb));have a6:=zd (λW (hb:Below w.heap.size w W)=>Y5 (hT.on hb) (h1.below hb));have H:=zd (iJ h1);have ao:=zd (iJ h0);have bb:=zd (so k0);have ba:=zd (Yv k0);have bq:zg ((zR L1).length=n1):=by show _=_;rw [nw];exact h1.len
 have ai:zg ((zR L0).length=n0):=by show _=_;rw [nw];exact h0.len
 have hn0:n0<=1048576:=qA h0.fits h0.small;have hn1:n1<=1048576:=qA h1.fits h1.small;have hm0:m0<=1048576:=qA k0.fits k0.small;have i0:(0:Int)<=(m0:Int):=za;clear h0 k0 h1 hT bc bd bz;go_enter func5,ntmps5;go_wp2_with fail;generalize w.alloc (.cells #[.slice A0 n0 c0,.slice B0 m0 e0] 68)=W1 at*;(with_reducible refine(Z9 (HT.o _ HB.o)).mono ?_);rintro e w2 ⟨rfl,hb⟩;obtain⟨g0,g1⟩:=zW hb g0 g1;have al:=zd (ze HB.o hb);clear hb HB;go_wp2_with fail;(with_reducible refine(a5.o _ al.o).mono ?_);rintro e w3 ⟨D,d,A,q,rfl,bi,hb⟩;have am:=zd (ze al.o hb);have a7:=zd bi;clear hb bi al g0 g1;rw [show(rh L0 R0 m0).cost.length=n0 from ai.o,show(rh L0 R0 m0).rows.length=m0 from pH _ _] at*;go_wp2_with fail;(with_reducible refine(a6.o _ am.o).mono ?_);rintro e w4 ⟨X,cx,rfl,hx,-,hb⟩;obtain⟨st,d3,d4⟩:=zF w4 42 #[.slice D n0 d,.slice A m0 q];have i:=zd (ze (ze am.o hb) st);have V:=zd ((a7.o.keep hb).keep st);have Q:=zd (zy.keep hx st);have a4:=zd d3;clear hb hx st d3 d4 am a7 a5 a6;obtain⟨x0,x1⟩:=a4.o.c2;obtain⟨bl,aa⟩:∃b,ru (zR L1)=b:=⟨_,rfl⟩;have ay:=zd (fF aa (HT.o _ i.o) Q.o H.o);go_upto_region 4 with fail;generalize w4.alloc (.cells #[.slice D n0 d,.slice A m0 q] 42)=W4 at*;generalize w4.heap.size=g5 at*;obtain⟨f0,S⟩:∃f,(decide (n1=n0)&& !bl)=f:=⟨_,rfl⟩;have bp:=zd S
 go_cut [7,25,26,27,28,29,30,31,32,33,34,35] (λs7 s25 s26 s27 s28 s29 s30 s31 s32 s33 s34 s35 wx=>s7=.bool f0/\Below W4.heap.size W4 wx)
 case first=>
  by_cases hn:n1=n0
  ·have e9:((n1:Int)==(n0:Int))=true:=by simp [hn]
   have HE:zg (f0= !bl):=by show _=_;rw [<-S,decide_eq_true hn];rfl
   clear S hn aa;go_wp2_with fail;refine ay.o.mono ?_;rintro e X1 ⟨rfl,hb⟩;have h:=zd hb;clear hb;go_wp2;go_meet;exact⟨by rw [HE.o],h.o⟩
  ·have e9:((n1:Int)==(n0:Int))=false:=by simp;omega
   have HE:zg (f0=false):=by show _=_;rw [<-S,decide_eq_false hn];rfl
   have h:=zd (qY W4.heap.size W4);clear S hn aa;go_wp2;go_meet;exact⟨by rw [HE.o],h.o⟩
 case rest=>
  obtain⟨rfl,be⟩:=hcut;have ap:Below W4.heap.size W4 wc:=be;clear be ay;obtain⟨x0,x1⟩:=zW ap x0 x1;go_wp2_with fail
  go_loopg [7,8] (m0+1) (λg s7 ix wr=>∃(j:Nat) (f:Bool),j<=m0/\m0<g+j/\ix=.int .i64 j/\s7=.bool f/\zg (f=(f0&&((wm R0 m0).take j).all (λq=>wH q (zR L1))))/\Below W4.heap.size W4 wr)
  case atStart=>exact⟨0,f0,QE _,za,rfl,rfl,by show _=_;simp,ap⟩
  case round=>
   clear ap x0 x1;obtain⟨j,f,hjm,hg,rfl,rfl,HF,hB⟩:=hrel;obtain⟨x0,x1⟩:=(zj hB a4.o).c2;by_cases hlt:j<m0
   ·obtain⟨ad,rfl,-,C,c,b,B,m,e9,E,u,v,c0,c1,c2,c3,c4,h5,-,h7⟩:=V.o.rows.get (qY _ _) hlt;obtain⟨c0,c1,c2,c3,c4⟩:=lw hB c0 c1 c2 c3 c4;have bu:decide ((j:Int)<(m0:Int))=true:=decide_eq_true za;have i1:(0:Int)<=(j:Int):=za;have i2:(j:Int)<(m0:Int):=za;have aj:j<(wm R0 m0).length:=by rw [pH];exact hlt
    have I:zH 1 ((wm R0 m0).getD j zL).co/\zp 1 ((wm R0 m0).getD j zL).rhs:=bb.o.at_ aj;have bj:=ba.o.at_ aj;have bf:=dB (x:=zR L1) aj
    change zy W4 C ((wm R0 m0).getD j zL).co.length c ((wm R0 m0).getD j zL).co at h5
    change zt W4 ((wm R0 m0).getD j zL).rhs b B m e9 E u v at h7
    change wr.cell? (ad.add (j*5))=some (.slice C ((wm R0 m0).getD j zL).co.length c) at c0
    change wr.cell? ⟨(ad.add (j*5)).block,(ad.add (j*5)).off+1,none⟩=some (.int .i64 ((wm R0 m0).getD j zL).kd) at c1
    generalize (wm R0 m0).getD j zL=p at*;obtain⟨n3,bh⟩:∃n,p.co.length=n:=⟨_,rfl⟩;rw [bh] at c0 h5 bj;clear bh;obtain⟨ok,ab⟩:∃ok,decide (p.co.length=(zR L1).length)=ok:=⟨_,rfl⟩;have ak:=zd (λW (hb:Below W4.heap.size W4 W)=>kF ab (HT.o _ (ze i.o hb)) (zy.keep h5 hb) (zy.keep Q.o hb) I.1 H.o);have an:=zd (λW (hb:Below W4.heap.size W4 W)=>mu ab (HT.o _ (ze i.o hb)) (zy.keep h5 hb) (h7.below hb) (zy.keep Q.o hb) I.1 I.2 H.o);have ah:=zd (λW (hb:Below W4.heap.size W4 W)=>eV (t:=wH p (zR L1)) rfl (HT.o _ (ze i.o hb)) (zy.keep h5 hb) (h7.below hb) (zy.keep Q.o hb) I.1 I.2 H.o);have R:zg (zp 3145729 (wk p.co (zR L1))):=by
     show zp _ _;unfold wk
     split
     ·exact(lU (n:=n3) h5.len (by have:=h5.len;omega) I.1 H.o).up za
     ·exact zp.zero.up za
    have bs:zg (zp 3145731 (wT p (zR L1))):=(cK (n:=n3) h5.len I.1 I.2 H.o).up za;have a9:=zd I.2;have H7:=zd h7;have bo:zg (ok=true->wT p (zR L1)+p.rhs=wk p.co (zR L1)):=λho=>by
     rw [<-ab] at ho;have hl:=of_decide_eq_true ho;unfold wT wk;rw [if_pos hl,if_pos hl]
     grind
    obtain⟨cm,ar⟩:∃c,xp (wk p.co (zR L1)) p.rhs=c:=⟨_,rfl⟩;have bn:=zd ar;have K:zg (wH p (zR L1)=ri ok p.kd cm):=by
     show _=_;rw [WP,ab,ar]
    have aw:=zd bf;obtain⟨kd,bg⟩:∃kd,p.kd=kd:=⟨_,rfl⟩;rw [bg] at c1 ah an K;have L:=zd hB;clear ab ar bf I bj hB h5 h7 bg aj;generalize wH p (zR L1)=hh at*;generalize wk p.co (zR L1)=dq at*;generalize wT p (zR L1)=oq at*;go_wp2_with fail;refine(ak.o _ L.o).mono ?_;rintro e X1 ⟨b1,T,af,Y,E1,k1,f1,rfl,ac,hb⟩;obtain⟨st,d3,d4⟩:=zF X1 60 #[.bool b1,.slice T af Y,.slice E1 k1 f1];have a:=ze hb st;have M:=zd (ze L.o a);have z:=zd (ac.below st);have y:=zd d3;obtain⟨c0,c1,c2,c3,c4,x0,x1⟩:=nm a c0 c1 c2 c3 c4 x0 x1;clear hb st d3 d4 a ac L ak;go_wp2_with fail;generalize X1.alloc (.cells #[.bool b1,.slice T af Y,.slice E1 k1 f1] 60)=X2 at*;generalize X1.heap.size=g9 at*;refine(an.o _ M.o).mono ?_;rintro e X3 ⟨b2,U,ag,Z,E2,k2,f2,rfl,ae,hb⟩;obtain⟨st,d3,d4⟩:=zF X3 60 #[.bool b2,.slice U ag Z,.slice E2 k2 f2];have a:=ze hb st;have J:=zd (ze M.o a);have O:=zd (ae.below st);have F:=zd d3;have z:=zd (z.o.below a);have y:=zd (zj a y.o);obtain⟨c0,c1,c2,c3,c4,x0,x1⟩:=nm a c0 c1 c2 c3 c4 x0 x1;clear hb st d3 d4 a ae M an;go_upto_region 10 with fail;generalize X3.alloc (.cells #[.bool b2,.slice U ag Z,.slice E2 k2 f2] 60)=X4 at*;generalize X3.heap.size=bt at*;obtain⟨p0,p1,p2⟩:=y.o.c3;have h:=zd ((qY X4.heap.size X4).drew);refine rg (zk p0 (zk p1 (zk p2 (zk x1 (zk c2 (zk c3 (zk c4 zP))))))) (λhHeld=>?_);clear p0 p1 p2;generalize X4.drew=D1 at*;refine tk 0 ?_;refine tk 1 ?_;refine tk 2 ?_;refine tk 3 ?_;refine tk 4 ?_;refine tk 5 ?_;refine tk 6 ?_;refine rc 7 (λKK hK=>?_);go_simp;(with_reducible refine(vN bn.o (oe (HT.o _ (ze i.o (ze J.o h.o))) (z.o.below h.o) (H7.o.below (ze J.o h.o)) R.o a9.o)).mono ?_);rintro e X5 ⟨rfl,hb⟩;refine hK.out _ _ (Cs.below hHeld hb) (λhHeld=>?_);have h:=zd (ze h.o hb);clear hK KK hb;refine tk 8 ?_;refine yb ?_;have a:=h.o;have G:=zd (ze J.o a);have z:=zd (z.o.below a);have O:=zd (O.o.below a);have y:=zd (zj a y.o);have F:=zd (zj a F.o);obtain⟨c0,c1,c2,c3,c4,x0,x1⟩:=nm a c0 c1 c2 c3 c4 x0 x1;clear hHeld h a J;go_upto_region 11 with fail
    go_cut [14,72,73,74,75,76,77,78,79,80,81,82,83,84,85,86,87,88,89,90,91,92,93,94,95,96,97,98,99,100,101,102,103,104,105,106,107,108,109,110,111] (λbw s72 s73 s74 s75 s76 s77 s78 s79 s80 s81 s82 s83 s84 s85 s86 s87 s88 s89 s90 s91 s92 s93 s94 s95 s96 s97 s98 s99 s100 s101 s102 s103 s104 s105 s106 s107 s108 s109 s110 s111 wx=>bw=.bool hh/\X5=wx)
    case first=>
     cases ok with
     |false=>
       have HE:zg (hh=false):=by show _=_;rw [K.o];simp [ri]
       go_wp2;go_meet;exact⟨by rw [HE.o],rfl⟩
     |true=>
       by_cases k1:kd=1
       ·have t1:(kd==1)=true:=by simp [k1]
        have t2:(kd==2)=false:=by simp [k1]
        have t3:(kd==3)=false:=by simp [k1]
        by_cases m1:cm<=0
        ·have d1:decide (cm<=0)=true:=decide_eq_true m1;have HE:zg (hh=true):=by show _=_;rw [K.o];simp [ri,k1,m1]
         clear k1 m1;go_wp2;go_meet;exact⟨by rw [HE.o],rfl⟩
        ·have d1:decide (cm<=0)=false:=decide_eq_false m1;have HE:zg (hh=false):=by show _=_;rw [K.o];simp [ri,k1,m1]
         clear k1 m1;go_wp2;go_meet;exact⟨by rw [HE.o],rfl⟩
       ·have t1:(kd==1)=false:=by simp [k1]
        by_cases k2:kd=2
        ·have t2:(kd==2)=true:=by simp [k2]
         have t3:(kd==3)=false:=by simp [k2]
         by_cases m1:0<=cm
         ·have d1:decide (cm>=0)=true:=decide_eq_true m1;have d2:decide (0<=cm)=true:=decide_eq_true m1;have HE:zg (hh=true):=by show _=_;rw [K.o];simp [ri,k2,m1]
          clear k2 m1;go_wp2;go_meet;exact⟨by rw [HE.o],rfl⟩
         ·have d1:decide (cm>=0)=false:=decide_eq_false m1;have d2:decide (0<=cm)=false:=decide_eq_false m1;have HE:zg (hh=false):=by show _=_;rw [K.o];simp [ri,k2,m1]
          clear k2 m1;go_wp2;go_meet;exact⟨by rw [HE.o],rfl⟩
        ·have t2:(kd==2)=false:=by simp [k2]
         by_cases k3:kd=3
         ·have t3:(kd==3)=true:=by simp [k3]
          by_cases m1:cm=0
          ·have d1:(cm==0)=true:=by simp [m1]
           have HE:zg (hh=true):=by show _=_;rw [K.o];simp [ri,k3,m1]
           clear k3 m1;go_wp2;go_meet;exact⟨by rw [HE.o],rfl⟩
          ·have d1:(cm==0)=false:=by simp [m1]
           have HE:zg (hh=false):=by show _=_;rw [K.o];simp [ri,k3,m1]
           clear k3 m1;go_wp2;go_meet;exact⟨by rw [HE.o],rfl⟩
         ·have t3:(kd==3)=false:=by simp [k3]
          have HE:zg (hh=false):=by show _=_;rw [K.o];simp [ri,k1,k2,k3]
          clear k1 k2 k3;go_wp2;go_meet;exact⟨by rw [HE.o],rfl⟩
    case rest=>
     obtain⟨rfl,rfl⟩:=hcut;go_upto_region 12 with fail
     go_cut [112,113,114,115,116,117,118,119,120,121,122,123,124,125,126,127,128,129,130,131,132,133,134,135,136,137,138,139,140,141] (λs112 s113 s114 s115 s116 s117 s118 s119 s120 s121 s122 s123 s124 s125 s126 s127 s128 s129 s130 s131 s132 s133 s134 s135 s136 s137 s138 s139 s140 bk wx=>bk=.bool false/\Below X5.heap.size X5 wx)
     case first=>
      obtain⟨p0,p1,p2⟩:=y.o.c3;obtain⟨q0,q1,q2⟩:=F.o.c3;have h:=zd ((qY X5.heap.size X5).drew);refine rg (zk p0 (zk p1 (zk p2 (zk q0 (zk q1 (zk q2 (zk x1 (zk c0 (zk c1 (zk c2 (zk c3 (zk c4 zP)))))))))))) (λhHeld=>?_);clear p0 p1 p2 q0 q1 q2 c0 c1 c2 c3 c4 x0 x1;generalize X5.drew=D2 at*;cases ok with
      |false=>
        refine tk 0 ?_;refine tk 1 ?_;refine tk 2 ?_;refine tk 3 ?_;refine tk 4 ?_;refine tk 5 ?_;refine tu 6 ?_;refine tu 7 ?_;refine tu 8 ?_;refine tu 9 ?_;refine tu 10 ?_;refine tu 11 ?_;refine tu 12 ?_;refine tu 13 ?_;refine tu 14 ?_;refine tu 15 ?_;refine tu 16 ?_;refine tk 17 ?_;refine tk 18 ?_;refine tk 19 ?_;refine tk 20 ?_;refine tk 21 ?_;refine tk 22 ?_;refine tk 23 ?_;refine tk 24 ?_;refine tk 25 ?_;refine tk 27 ?_;refine rc 26 (λKK hK=>?_);go_simp;(with_reducible refine(ah.o _ (ze G.o h.o)).mono ?_);rintro e X8 ⟨rfl,hb⟩;refine hK.out _ _ (Cs.below hHeld hb) (λhHeld=>?_);have h:=zd (ze h.o hb);clear hK KK hb;refine tk 28 ?_;refine tk 29 ?_;refine yb ?_;clear hHeld;go_wp2;go_meet;exact⟨by cases hh<;>rfl,h.o⟩
      |true=>
        refine tk 0 ?_;refine tk 1 ?_;refine tk 2 ?_;refine tk 3 ?_;refine tk 4 ?_;refine tk 5 ?_;refine tk 6 ?_;refine tk 7 ?_;refine tk 8 ?_;refine tk 9 ?_;refine tk 10 ?_;refine tk 11 ?_;refine tk 12 ?_;refine tk 14 ?_;refine rc 13 (λKK hK=>?_);go_simp;(with_reducible refine(lk (HT.o _ (ze i.o (ze G.o h.o))) (O.o.below h.o) (H7.o.below (ze G.o h.o)) bs.o a9.o).mono ?_);rintro e X6 ⟨b6,A6,n6,c6,E6,k6,f6,rfl,av,hb⟩;refine hK.out _ _ (Cs.below hHeld hb) (λhHeld=>?_);have h:=zd (ze h.o hb);rw [bo.o rfl] at av;have br:=zd av;clear hK KK hb av;refine rc 15 (λKK hK=>?_);go_simp;(with_reducible refine(jm (t:=true) (decide_eq_true rfl) (HT.o _ (ze i.o (ze G.o h.o))) br.o (z.o.below h.o) R.o R.o).mono ?_);rintro e X7 ⟨rfl,hb⟩;refine hK.out _ _ (Cs.below hHeld hb) (λhHeld=>?_);have h:=zd (ze h.o hb);clear hK KK hb;refine tk 16 ?_;refine tk 17 ?_;refine tk 18 ?_;refine tk 19 ?_;refine tk 20 ?_;refine tk 21 ?_;refine tk 22 ?_;refine tk 23 ?_;refine tk 24 ?_;refine tk 25 ?_;refine tk 27 ?_;refine rc 26 (λKK hK=>?_);go_simp;(with_reducible refine(ah.o _ (ze G.o h.o)).mono ?_);rintro e X8 ⟨rfl,hb⟩;refine hK.out _ _ (Cs.below hHeld hb) (λhHeld=>?_);have h:=zd (ze h.o hb);clear hK KK hb;refine tk 28 ?_;refine tk 29 ?_;refine yb ?_;clear hHeld;go_wp2;go_meet;exact⟨by cases hh<;>rfl,h.o⟩
     case rest=>
      obtain⟨rfl,a⟩:=hcut;have ax:=zd (ze G.o a);have a1:zg ((f&&hh)=(f0&&((wm R0 m0).take (j+1)).all (λq=>wH q (zR L1)))):=by
       show _=_;rw [HF.o,aw.o,Bool.and_assoc]
      clear c0 c1 c2 c3 c4 x0 x1 a G ah z O y F H7 aw HF;cases f with
      |false=>
        go_wp2;go_roundg (m0 - j)
        case measure=>omega
        case rel=>exact⟨j+1,_,za,za,by go_num,rfl,a1,ax.o⟩
      |true=>
        go_wp2;go_roundg (m0 - j)
        case measure=>omega
        case rel=>exact⟨j+1,_,za,za,by go_num,rfl,a1,ax.o⟩
   ·have hj:j=m0:=za;have bu:decide ((j:Int)<(m0:Int))=false:=decide_eq_false za;have a2:zg (f=kh (rh L0 R0 m0) (zR L1)):=by
     show _=_;have h1:=HF.o;rw [qU (by rw [pH];omega)] at h1;rw [h1,<-bp.o];unfold kh;rw [aa,show(zR L1).length=n1 from bq.o,show(rh L0 R0 m0).cost.length=n0 from ai.o];rfl
    clear HF hj aa S;obtain⟨oc,au⟩:∃oc,decide ((rh L0 R0 m0).cost.length=(zR L1).length)=oc:=⟨_,rfl⟩;have aq:zy W4 D n0 d (rh L0 R0 m0).cost:=V.o.cost;have az:=zd (λW (hb:Below W4.heap.size W4 W)=>Wc (P:=rh L0 R0 m0) (A:=A) (nr:=m0) (q:=q) au (HT.o _ (ze i.o hb)) (zy.keep aq hb) (zy.keep Q.o hb) ao.o H.o);have a0:=zd (λW (hb:Below W4.heap.size W4 W)=>kF au (HT.o _ (ze i.o hb)) (zy.keep aq hb) (zy.keep Q.o hb) ao.o H.o);have a3:=zd (λW (hb:Below W4.heap.size W4 W)=>eS (N:=1048576) a2.o.symm (HT.o _ (ze i.o hb)) (V.o.keep hb) (zy.keep Q.o hb) bb.o ba.o H.o);have R:zg (zp 3145729 (wk (rh L0 R0 m0).cost (zR L1))):=by
     show zp _ _;unfold wk
     split
     ·exact(lU (n:=n0) ai.o (by have h1:(rh L0 R0 m0).cost.length=n0:=ai.o;omega) ao.o H.o).up za
     ·exact zp.zero.up za
    have L:=zd hB;have e8:(f==f)=true:=zD;have e9:(oc==oc)=true:=zD;generalize wk (rh L0 R0 m0).cost (zR L1)=cq at*;clear hB au aq a2;go_wp2_with fail;refine(az.o _ L.o).mono ?_;rintro e X1 ⟨b1,T,af,Y,E1,k1,f1,rfl,ac,hb⟩;obtain⟨st,d3,d4⟩:=zF X1 60 #[.bool b1,.slice T af Y,.slice E1 k1 f1];have a:=ze hb st;have M:=zd (ze L.o a);have z:=zd (ac.below st);have y:=zd d3;obtain⟨x0,x1⟩:=zW a x0 x1;clear hb st d3 d4 a ac L az;go_wp2_with fail;generalize X1.alloc (.cells #[.bool b1,.slice T af Y,.slice E1 k1 f1] 60)=X2 at*;generalize X1.heap.size=g9 at*;refine(a0.o _ M.o).mono ?_;rintro e X3 ⟨b2,U,ag,Z,E2,k2,f2,rfl,ae,hb⟩;obtain⟨st,d3,d4⟩:=zF X3 60 #[.bool b2,.slice U ag Z,.slice E2 k2 f2];have a:=ze hb st;have J:=zd (ze M.o a);have O:=zd (ae.below st);have F:=zd d3;have z:=zd (z.o.below a);have y:=zd (zj a y.o);obtain⟨x0,x1⟩:=zW a x0 x1;clear hb st d3 d4 a ae M a0;go_wp2_with fail;generalize X3.alloc (.cells #[.bool b2,.slice U ag Z,.slice E2 k2 f2] 60)=X4 at*;generalize X3.heap.size=bt at*;refine(a3.o _ J.o).mono ?_;rintro e X5 ⟨rfl,hb⟩;obtain⟨p0,p1,p2⟩:=(zj hb y.o).c3;obtain⟨q0,q1,q2⟩:=(zj hb F.o).c3;have a8:=zd (jm (t:=true) (decide_eq_true rfl) (HT.o _ (ze i.o (ze J.o hb))) (z.o.below hb) (O.o.below hb) R.o R.o);have G:=zd (ze i.o (ze J.o hb));clear hb J a3 z O y F x0 x1;go_wp2_with fail;refine a8.o.mono ?_;rintro e X6 ⟨rfl,hb⟩;have bm:=zd (ze G.o hb);clear hb G a8 p0 p1 p2 q0 q1 q2;go_wp2;go_ret;exact⟨rfl,bm.o⟩
