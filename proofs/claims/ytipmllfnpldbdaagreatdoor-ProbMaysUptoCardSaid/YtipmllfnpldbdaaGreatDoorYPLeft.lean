/- What this claim leans on. -/
import Derived.Test.YtipmllfnpldbdaaGreatDoorYE9Api
set_option linter.unusedVariables false
set_option linter.unusedSimpArgs false
namespace Go.Proofs.YtipmllfnpldbdaaGreatDoor
open Go Go.RowKit Go.Proofs.Tryz
set_option maxHeartbeats 16000000
set_option maxRecDepth 100000
set_option maxHeartbeats 4000000
variable {d9:Nat}{w:World}{A D:zf}
def wG (zs:List Int):Array Value:=(zs.map λz=>Value.int .i64 z).toArray
theorem eC (zs:List Int):(wG zs).size=zs.length:=by simp [wG]
theorem iC (zs:List Int)(i:Nat)(z:Int):(wG zs).setIfInBounds i (.int .i64 z)=wG (zs.set i z):=by
 unfold wG;rw [qK,List.map_set]
theorem iB (zs:List Int){i:Nat}(hi:i<zs.length):(wG zs)[i]?=some (.int .i64 (zs.getD i 0)):=by
 unfold wG;rw [QQ,QB,qQ,qZ hi];rfl
def xd (ps:List PR)(c:Nat):Nat:=c+ps.countP λp=>decide (p.kd≠3)
def rd (ps:List PR)(c j:Nat):Int:=if (ps.getD j zN).kd=3 then -1 else(xd (ps.take j) c:Int)
def vv (ps:List PR)(c:Nat):List Int:=(List.range ps.length).map (rd ps c)
theorem mC (ps:List PR)(c:Nat):(vv ps c).length=ps.length:=by simp [vv]
theorem dQ (ps:List PR)(c:Nat){j:Nat}(hj:j<ps.length):(vv ps c)[j]?=some (rd ps c j):=by
 unfold vv;rw [QB,XP hj];rfl
theorem eD (ps:List PR)(c:Nat){j:Nat}(hj:j<ps.length):(vv ps c).getD j 0=rd ps c j:=by
 rw [qQ,dQ ps c hj];rfl
theorem eY (ps:List PR)(c:Nat){j:Nat}(hj:j<ps.length):xd (ps.take (j+1)) c=xd (ps.take j) c+(if (ps.getD j zN).kd=3 then 0 else 1):=by
 unfold xd;rw [QJ hj,List.countP_append,qQ,qZ hj,List.countP_singleton];show _=_+(if (ps[j]).kd=3 then 0 else 1);by_cases h:(ps[j]).kd=3<;>simp [h]<;>omega
theorem iN (ps:List PR)(c:Nat):c<=xd ps c/\xd ps c<=c+ps.length:=⟨Nat.le_add_right _ _,YB List.countP_le_length _⟩
theorem iq (ps:List PR)(c j:Nat):xd (ps.take j) c<=xd ps c:=by
 unfold xd;exact YB (List.Sublist.countP_le (List.take_sublist j ps)) _
def cO (w:World)(n:Nat)(zs:List Int)(cols:Nat)(e:Ending)(w':World):Prop:=∃g,e=.returned (.tuple #[.slice (some ⟨g,0,none⟩) n n,.int .i64 (cols:Int)])/\w.heap.size<=g/\zi w' g 3 (wG zs)/\Below w.heap.size w w'
theorem Ug (n:Nat)(hn:n<=1099511627776):∀W:World,(Instr.makeSlice 33 (.int .i64 (n:Int)) (.int .i64 (n:Int))).run prog W=.ok (.slice (some ⟨W.heap.size,0,none⟩) n n) (W.alloc (.cells (wG (List.replicate n 0)) 3)):=by
 obtain⟨i0,a,d,g,j⟩:=info_parts lu;intro W;have h:=uv (P:=prog) _ _ i0 _ underlying33 a d .i64 .i64 n n (qX _) (by rw [j];omega) za W;rw [g,xO] at h;have e:madeCells (Value.cells (.int .i64 0)) n=wG (List.replicate n 0):=by
  apply Array.ext
  ·rw [size_madeCells,eC,QE]
  ·intro i h1 h2;rw [size_madeCells] at h1;have a1:=nK (Value.cells (.int .i64 0)) n i h1;have a2:=iB (List.replicate n 0) (i:=i) (by simpa using h1);rw [QX (by rw [size_madeCells];exact h1)] at a1;rw [QX h2] at a2;injection a1 with a1;injection a2 with a2;rw [a1,a2];simp [Value.cells,qQ,h1,xD]
 rw [e] at h;exact h
theorem VC {P:PB}{k:Nat}{n q:Nat}(h:ub w D k d9 A n q P)(hn:n<=1000000:=by omega)(hk:k<=1000000:=by omega):
  Calls prog 44 #[.agg #[.slice D k d9,.slice A n q]] w (cO w n (vv P.rows k) (xd P.rows k)):=by
 have O:=h.rows.len;obtain⟨X,L,bz⟩:=zG w 42 #[.slice D k d9,.slice A n q];have U:Below w.heap.size w ((w.alloc (.cells #[.slice D k d9,.slice A n q] 42)).alloc (.cells (wG (List.replicate n 0)) 3)):=X.alloc zD _;have V:=L.alloc (.cells (wG (List.replicate n 0)) 3);have K:=zi.new (w.alloc (.cells #[.slice D k d9,.slice A n q] 42)) 3 (wG (List.replicate n 0));have e1:(w.alloc (.cells #[.slice D k d9,.slice A n q] 42)).heap.size=w.heap.size+1:=zD;rw [e1] at K;obtain⟨g0,g1⟩:=L.c2;obtain⟨q0,q1⟩:=V.c2;have ae:=Ug n za;have HB:=zd U;have HM:=zd K;have HW:=zd (λW (hb:Below w.heap.size w W) (i:Nat) (hi:i<n)=>h.rows.get hb hi);have x:=zd O;have i0:(0:Int)<=(n:Int):=za;have HC:=zd (λj=>iq P.rows k j);have S:=zd (iN P.rows k);rw [O] at S;have hc9:=S.o.2;clear h X L bz O U V K e1;generalize P.rows=ps at*;clear P;have ab:zg (xd (ps.take 0) k=k):=rfl;have aa:zg (xd (ps.take n) k=xd ps k):=by show _=_;rw [<-x.o,List.take_length]
 go_enter func44,ntmps44;go_wp2_with fail;clear g0 g1 q0 q1 ae;obtain⟨gi,M⟩:∃g,w.heap.size+1=g:=⟨_,rfl⟩;rw [M] at HM⊢;generalize (w.alloc (.cells #[.slice D k d9,.slice A n q] 42)).alloc (.cells (wG (List.replicate n 0)) 3)=W1 at*;have T:=zd M;clear M
 go_loopg [5,18] (n+1) (λg cx ix wr=>∃(j:Nat),j<=n/\n<g+j/\ix=.int .i64 j/\cx=.int .i64 (xd (ps.take j) k)/\Below w.heap.size w wr/\zg (zi wr gi 3 (wG (wD 0 (vv ps k) n j))))
 case atStart=>exact⟨0,xQ _,za,rfl,by rw [ab.o],HB.o,by show zi _ _ _ _;rw [pU];exact HM.o⟩
 case round=>
  clear HB HM;obtain⟨j,hjn,hg,rfl,rfl,hB,HM⟩:=hrel;by_cases hlt:j<n
  ·obtain⟨ad,rfl,-,C,c,b,B,m,e9,E,u,v,c0,c1,c2,c3,c4,h5,-,h7⟩:=HW.o _ hB j hlt;have ac:decide ((j:Int)<(n:Int))=true:=decide_eq_true za;have i1:(0:Int)<=(j:Int):=za;have i2:(j:Int)<(n:Int):=za;obtain⟨st,d3,d4⟩:=zG wr 83 #[.slice C (ps.getD j zN).co.length c,.int .i64 (ps.getD j zN).kd,.bool b,.slice B m e9,.slice E u v];have hm:=zj st HM.o;have G:gi<wr.heap.size:=HM.o.lt;have y:gi≠wr.heap.size:=za;have F:j<ps.length:=by have:=x.o;omega
   have Y:(wG (wD 0 (vv ps k) n j)).size=n:=by
    rw [eC];unfold wD;rw [qA,QY,QE,mC,x.o];omega
   have s0:∃uu:Value,(wr.alloc (.cells #[.slice C (ps.getD j zN).co.length c,.int .i64 (ps.getD j zN).kd,.bool b,.slice B m e9,.slice E u v] 83)).cell? ⟨gi,j,none⟩=some uu:=⟨_,(hm.cell j).trans (QX za)⟩;obtain⟨s0,hs0⟩:=s0;have hs1:=hm.frozen j;have d:=hm.set_ j (.int .i64 (-1));have Z:=zd (zi.far (p:=⟨gi,j,none⟩) d3 (by simpa using y.symm) (.int .i64 (-1)));obtain⟨p0,p1,p2,p3,p4⟩:=Z.o.c5;have z:=zd (ze hB st);have R:w.heap.size<=gi:=by have:=T.o;omega
   have t:=eY ps k F;have N:rd ps k j=if (ps.getD j zN).kd=3 then -1 else(xd (ps.take j) k:Int):=rfl
   have a:=pW 0 (vv ps k) n j (by rw [mC];exact x.o) hlt _ (dQ ps k F);rw [N] at a;clear h5 h7;generalize (ps.getD j zN).co.length=n3 at*;generalize (ps.getD j zN).kd=kd at*;have hcj:=HC.o j;have hcj2:=(iN (ps.take j) k).1;by_cases k3:kd=3
   ·rw [if_pos k3] at a t;have t3:(kd !=3)=false:=by simp [k3]
    rw [iC,a] at d;have J:=zd d;have H:=zd (zH (p:=⟨gi,j,none⟩) (.int .i64 (-1)) R z.o);have I:=zd t;clear hB st d3 d4 F Y hm d N a k3 HM z t y G;go_wp2;go_roundg (n - j)
    case measure=>omega
    case rel=>exact⟨j+1,za,za,by go_num,by rw [I.o];rfl,H.o,J⟩
   ·rw [if_neg k3] at a t;have t3:(kd !=3)=true:=by simp [k3]
    generalize xd (ps.take j) k=cj at*;have hs2:=(d.cell j).trans (QR za);have hs3:=d.frozen j;have Q:=d.set_ j (.int .i64 (cj:Int));rw [iC,iC,List.set_set,a] at Q;have J:=zd Q;have H:=zd (zH (p:=⟨gi,j,none⟩) (.int .i64 (cj:Int)) R (zH (p:=⟨gi,j,none⟩) (.int .i64 (-1)) R z.o));have I:=zd t;clear hB st d3 d4 F Y hm d Q N a k3 HM z t y G;go_wp2;go_roundg (n - j)
    case measure=>omega
    case rel=>exact⟨j+1,za,za,by go_num,by rw [I.o];go_num,H.o,J⟩
  ·obtain rfl:j=n:=za;have ac:decide ((j:Int)<(j:Int))=false:=zD;have HF:zg (cO w j (vv ps k) (xd ps k) (.returned (.tuple #[.slice (some ⟨gi,0,none⟩) j j,.int .i64 (xd (ps.take j) k:Int)])) wr):=by
    refine⟨gi,by rw [aa.o],by have:=T.o;omega,?_,hB⟩;have h1:=HM.o;rw [pV 0 _ j (by rw [mC];exact x.o)] at h1;exact h1
   clear hB HM;go_wp2
   go_ret2
   exact HF.o
def xi (n:Nat)(p:PR):Int:=if p.co.length=n then(if p.kd=1 then 0 else if p.kd=2 then 0 else if p.kd=3 then 0 else 160) else 2
def vQ:ByteArray:={data:=#[114,111,119]}
def xh (n:Nat):List PR->Nat->Er
 |[],_=>.no
 |p::ps,k=>if xi n p=0 then xh n ps (k+1) else .spot (xi n p) vQ k
theorem dL (n:Nat)(ps:List PR)(k j:Nat)(h:∀i,i<j->xi n (ps.getD i zN)=0)(hj:j<=ps.length):xh n ps k=xh n (ps.drop j) (k+j):=by
 induction j generalizing ps k with
 |zero=>rfl
 |succ j ih=>
   cases ps with
   |nil=>simp at hj
   |cons p ps=>
     have h0:xi n p=0:=h 0 za;rw [xh,if_pos h0,ih ps (k+1) (λi hi=>h (i+1) za) (by simpa using hj),List.drop_succ_cons];congr 1;omega
theorem V5 {n:Nat}{ps:List PR}{j:Nat}(h:∀i,i<j->xi n (ps.getD i zN)=0)(hj:j<ps.length)(a:xi n (ps.getD j zN)≠0):xh n ps 0=.spot (xi n (ps.getD j zN)) vQ j:=by
 rw [dL n ps 0 j h za,xG,xS hj];rw [qQ,qZ hj] at a⊢;have d:xi n ps[j]≠0:=a;rw [xh,if_neg d];rfl
theorem V6 {n:Nat}{ps:List PR}(h:∀i,i<ps.length->xi n (ps.getD i zN)=0):xh n ps 0=.no:=by
 rw [dL n ps 0 ps.length h (qX _),List.drop_length];rfl
def xu (P:PB):Er:=if 24<P.cost.length then .bare 2 else if 20<P.rows.length then .bare 2 else xh P.cost.length P.rows 0
def vP (z:Int):Value:=if z=0 then .nilIface else .iface 71 (.int .i64 z)
theorem pH {p:PR}{C:zf}{n k c:Nat}{w:World}{v2 v3 v4:Value}(hn:p.co.length=n):
  Calls prog 57 #[.agg #[.slice C n c,.int .i64 p.kd,v2,v3,v4],.int .i64 (k:Int)] w (λe w'=>e=.returned (vP (xi k p))/\Below w.heap.size w w'):=by
 obtain⟨d,g,bz⟩:=zG w 83 #[.slice C n c,.int .i64 p.kd,v2,v3,v4];obtain⟨g0,g1,g2,g3,g4⟩:=g.c5;have HB:=zd d;clear d g bz;obtain⟨kd,a⟩:∃kd,p.kd=kd:=⟨_,rfl⟩;have hE:zg (xi k p=if n=k then(if kd=1 then 0 else if kd=2 then 0 else if kd=3 then 0 else 160) else 2):=by
  show _=_;unfold xi;rw [hn,a]
 rw [a] at g0 g1 g2 g3 g4 HB⊢;clear a hn;generalize xi k p=z at*;by_cases hl:n=k
 ·subst hl;have e0:((n:Int) !=(n:Int))=false:=zD;by_cases k1:kd=1
  ·have t1:(kd==1)=true:=by simp [k1]
   have HZ:zg (vP z=.nilIface):=by show _=_;rw [hE.o];simp [k1,vP]
   clear hE k1;go_enter func57,ntmps57;go_wp2;go_ret;exact⟨by rw [HZ.o];rfl,HB.o⟩
  ·have t1:(kd==1)=false:=by simp [k1]
   by_cases k2:kd=2
   ·have t2:(kd==2)=true:=by simp [k2]
    have HZ:zg (vP z=.nilIface):=by show _=_;rw [hE.o];simp [k2,vP]
    clear hE k1 k2;go_enter func57,ntmps57;go_wp2;go_ret;exact⟨by rw [HZ.o];rfl,HB.o⟩
   ·have t2:(kd==2)=false:=by simp [k2]
    by_cases k3:kd=3
    ·have t3:(kd==3)=true:=by simp [k3]
     have HZ:zg (vP z=.nilIface):=by show _=_;rw [hE.o];simp [k3,vP]
     clear hE k1 k2 k3;go_enter func57,ntmps57;go_wp2;go_ret;exact⟨by rw [HZ.o];rfl,HB.o⟩
    ·have t3:(kd==3)=false:=by simp [k3]
     have HZ:zg (vP z=.iface 71 (.int .i64 160)):=by show _=_;rw [hE.o];simp [k1,k2,k3,vP]
     clear hE k1 k2 k3;go_enter func57,ntmps57;go_wp2;go_ret;exact⟨by rw [HZ.o];rfl,HB.o⟩
 ·have e0:((n:Int) !=(k:Int))=true:=by rw [bne_iff_ne];omega
  have HZ:zg (vP z=.iface 71 (.int .i64 2)):=by show _=_;rw [hE.o];simp [hl,vP]
  clear hE hl;go_enter func57,ntmps57;go_wp2;go_ret;exact⟨by rw [HZ.o];rfl,HB.o⟩
def kf (w:World)(er:Er)(e:Ending)(w':World):Prop:=∃v,e=.returned v/\uj w' er v/\Below w.heap.size w w'
theorem iK {P:PB}{k:Nat}{n q:Nat}(h:ub w D k d9 A n q P):
  Calls prog 19 #[.agg #[.slice D k d9,.slice A n q]] w (kf w (xu P)):=by
 have L:=h.cost.len;have G:=h.rows.len;have hn9:n<=9223372036854775807:=qC h.fits h.most;obtain⟨K,F,bz⟩:=zG w 42 #[.slice D k d9,.slice A n q];obtain⟨g0,g1⟩:=F.c2;have HB:=zd K;have HK:=zd F;have HE:zg (xu P=if 24<k then .bare 2 else if 20<n then .bare 2 else xh k P.rows 0):=by
  show _=_;unfold xu;rw [L,G]
 have HW:=zd (λW (hb:Below w.heap.size w W) (i:Nat) (hi:i<n)=>h.rows.get hb hi);have J:=zd G;have i0:(0:Int)<=(n:Int):=za;clear h K F bz L G;generalize xu P=er at*;generalize P.rows=ps at*;clear P;by_cases hk:24<k
 ·have d1:decide ((k:Int)>24)=true:=decide_eq_true za;have HR:zg (kf w er (.returned (.iface 71 (.int .i64 2))) (w.alloc (.cells #[.slice D k d9,.slice A n q] 42))):=by
   refine⟨_,rfl,?_,HB.o⟩;rw [HE.o,if_pos hk];rfl
  clear HE hk HB HK HW;go_enter func19,ntmps19;go_wp2;go_ret;exact HR.o
 ·have d1:decide ((k:Int)>24)=false:=decide_eq_false za;by_cases hn:20<n
  ·have d2:decide ((n:Int)>20)=true:=decide_eq_true za;have HR:zg (kf w er (.returned (.iface 71 (.int .i64 2))) (w.alloc (.cells #[.slice D k d9,.slice A n q] 42))):=by
    refine⟨_,rfl,?_,HB.o⟩;rw [HE.o,if_neg hk,if_pos hn];rfl
   clear HE hk hn HB HK HW;go_enter func19,ntmps19;go_wp2;go_ret;exact HR.o
  ·have d2:decide ((n:Int)>20)=false:=decide_eq_false za;have I:zg (er=xh k ps 0):=by
    show _=_;rw [HE.o,if_neg hk,if_neg hn]
   clear HE;have hB:=HB.o;clear hn hk HB;go_enter func19,ntmps19;go_wp2_with fail;clear g0 g1
   go_loopg [20] (n+1) (λg ix wr=>∃(j:Nat),j<=n/\n<g+j/\ix=.int .i64 j/\zg (∀i,i<j->xi k (ps.getD i zN)=0)/\Below w.heap.size w wr/\zg (zi wr w.heap.size 42 #[.slice D k d9,.slice A n q]))
   case atStart=>exact⟨0,xQ _,za,rfl,λi hi=>absurd hi za,hB,HK⟩
   case round=>
    clear hB HK;obtain⟨j,hjn,hg,rfl,a,hB,HK⟩:=hrel;by_cases hlt:j<n
    ·obtain⟨ad,rfl,-,C,c,b,B,m,e9,E,u,v,c0,c1,c2,c3,c4,h5,-,h7⟩:=HW.o _ hB j hlt;have Q:decide ((j:Int)<(n:Int))=true:=decide_eq_true za;have i1:(0:Int)<=(j:Int):=za;have i2:(j:Int)<(n:Int):=za;obtain⟨z,hz⟩:∃z,xi k (ps.getD j zN)=z:=⟨_,rfl⟩;obtain⟨st,d3,d4⟩:=zG wr 83 #[.slice C (ps.getD j zN).co.length c,.int .i64 (ps.getD j zN).kd,.bool b,.slice B m e9,.slice E u v];obtain⟨p0,p1,p2,p3,p4⟩:=d3.c5;have HJ:=λW=>zd (pH (p:=ps.getD j zN) (C:=C) (k:=k) (c:=c) (w:=W) (v2:=.bool b) (v3:=.slice B m e9) (v4:=.slice E u v) rfl);rw [hz] at HJ;have d:=zd (ze hB st);have x:=zj st HK.o;obtain⟨g0,g1⟩:=x.c2;have y:=zd x;have H:j<ps.length:=by have:=J.o;omega
     by_cases hz1:z=0
     ·have O:zg (∀i,i<j+1->xi k (ps.getD i zN)=0):=λi hi=>by
       by_cases hij:i=j
       ·rw [hij,hz,hz1]
       ·exact a.o i za
      have e1:vP z=.nilIface:=by rw [hz1];rfl
      rw [e1] at HJ;generalize (ps.getD j zN).co.length=n3 at*;generalize (ps.getD j zN).kd=kd at*;have M:=lZ;clear a hB h5 h7 st d3 d4 hz hz1 H e1 HK x;go_wp2_with fail;refine(HJ _).o.mono ?_;rintro e w3 ⟨rfl,hb⟩;have t:=zd (ze d.o hb);have N:=zd (zj hb y.o);clear hb d HJ p0 p1 p2 p3 p4 c0 c1 c2 c3 c4 g0 g1 y;go_wp2;go_roundg (n - j)
      case measure=>omega
      case rel=>exact⟨j+1,za,za,by go_num,O,t.o,N⟩
     ·have e1:vP z=.iface 71 (.int .i64 z):=by unfold vP;rw [if_neg hz1]
      rw [e1] at HJ;have HF:zg (er=.spot z vQ j):=by
       show _=_;rw [I.o,V5 a.o H (by rw [hz];exact hz1),hz]
      generalize (ps.getD j zN).co.length=n3 at*;generalize (ps.getD j zN).kd=kd at*;have M:=λw=>nY 71 (.int .i64 z) w;clear a hB h5 h7 st d3 d4 hz hz1 H e1 HK x;go_wp2_with fail;refine(HJ _).o.mono ?_;rintro e w3 ⟨rfl,hb⟩;have t:=zd (ze d.o hb);clear hb d HJ p0 p1 p2 p3 p4 c0 c1 c2 c3 c4 g0 g1 y;go_wp2_with fail;refine(te z vQ (j:Int) _).mono ?_;rintro e w4 ⟨v4,rfl,he,hb⟩;have HG:zg (kf w er (.returned v4) w4):=⟨_,rfl,by rw [HF.o];exact he,ze t.o hb⟩;clear he hb t M;go_wp2;go_ret;exact HG.o
    ·have Q:decide ((j:Int)<(n:Int))=false:=decide_eq_false za;have HF:zg (kf w er (.returned .nilIface) wr):=by
      have h1:=J.o;have h2:=a.o;refine⟨_,rfl,?_,hB⟩;rw [I.o,V6 (λi hi=>h2 i za)];rfl
     clear a hB;go_wp2;go_ret;exact HF.o
