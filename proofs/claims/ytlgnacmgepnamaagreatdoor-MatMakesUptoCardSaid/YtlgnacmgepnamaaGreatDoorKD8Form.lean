/- What this claim leans on. -/
import Derived.Test.YtlgnacmgepnamaaGreatDoorKBun7
import Derived.Test.YtlgnacmgepnamaaGreatDoorKBunI
namespace Go.Proofs.YtlgnacmgepnamaaGreatDoor
open Go Go.RowKit
set_option maxHeartbeats 16000000
set_option linter.unusedVariables false
theorem zoa {r:Rat}{t:Int}{d:Nat}(hd:d≠0)(hc:Nat.gcd t.natAbs d=1)(h:r=Rat.divInt t d):r.num=t/\r.den=d:=by
 have e:(⟨t,d,hd,hc⟩:Rat)=Rat.divInt t d:=Rat.mk_eq_divInt
 rw [<-e] at h
 subst h
 exact⟨rfl,rfl⟩
theorem ziE (t:Int)(h:Nat)(hd:h ∣ t.natAbs):t=(h:Int)*zaU (decide (t<0)) (t.natAbs / h):=by
 obtain⟨k,hk⟩:=hd
 by_cases h0:h=0
 ·subst h0;rw [Nat.zero_mul] at hk;have:t=0:=Int.natAbs_eq_zero.1 hk;subst this;simp
 have e:t.natAbs / h=k:=by rw [hk];exact Nat.mul_div_cancel_left _ (Nat.pos_of_ne_zero h0)
 rw [e]
 unfold zaU
 by_cases ht:t<0
 ·rw [decide_eq_true ht,if_pos rfl,Int.mul_neg,<-Int.natCast_mul,<-hk];omega
 ·rw [decide_eq_false ht,if_neg (by decide),<-Int.natCast_mul,<-hk];omega
theorem sgnI_mul (s u:Bool)(x y:Nat):zaU s x*zaU u y=zaU (s !=u) (x*y):=by
 cases s<;>cases u<;>simp [zaU,Int.natCast_mul,Int.neg_mul,Int.mul_neg]
theorem zpP {p1 p2 t:Int}{q1 mA mB:Nat}(hc:Nat.gcd p1.natAbs q1=1)(hA:mA ∣ q1)(hm:Nat.gcd mA mB=1)(ht:t=p1*mB+p2*mA):Nat.gcd t.natAbs mA=1:=by
 refine Nat.dvd_one.1 ?_
 have h1:Nat.gcd t.natAbs mA ∣ mA:=Nat.gcd_dvd_right _ _
 have h2:Nat.gcd t.natAbs mA ∣ t.natAbs:=Nat.gcd_dvd_left _ _
 generalize Nat.gcd t.natAbs mA=d at*
 have h3:(d:Int)∣ p1*mB:=by
  have a:=Int.ofNat_dvd_left.2 h2
  have b:(d:Int)∣ p2*mA:=Int.dvd_trans (Int.ofNat_dvd.2 h1) (Int.dvd_mul_left _ _)
  have c:=Int.dvd_sub a b
  rw [ht,Int.add_sub_cancel] at c
  exact c
 have h4:d ∣ p1.natAbs*mB:=by
  have:=Int.ofNat_dvd_left.1 h3
  rwa [Int.natAbs_mul,Int.natAbs_natCast] at this
 have h5:Nat.Coprime d mB:=Nat.Coprime.coprime_dvd_left h1 hm
 have h6:d ∣ p1.natAbs:=h5.dvd_of_dvd_mul_right h4
 have h7:=Nat.dvd_gcd h6 (Nat.dvd_trans h1 hA)
 rwa [hc] at h7
theorem zpk (a b:Rat){mA mB:Nat}{t:Int}(hA:mA=a.den / Nat.gcd a.den b.den)(hB:mB=b.den / Nat.gcd a.den b.den)(ht:t=a.num*mB+b.num*mA):
  (a+b).num=zaU (decide (t<0)) (t.natAbs / Nat.gcd t.natAbs b.den)/\(a+b).den=mA*(b.den / Nat.gcd t.natAbs b.den):=by
 have g0:0<Nat.gcd a.den b.den:=Nat.gcd_pos_of_pos_left _ (Nat.pos_of_ne_zero a.den_nz)
 have k0:0<Nat.gcd t.natAbs b.den:=Nat.gcd_pos_of_pos_right _ (Nat.pos_of_ne_zero b.den_nz)
 have ea:Nat.gcd a.den b.den*mA=a.den:=by rw [hA];exact Nat.mul_div_cancel' (Nat.gcd_dvd_left _ _)
 have eb:Nat.gcd a.den b.den*mB=b.den:=by rw [hB];exact Nat.mul_div_cancel' (Nat.gcd_dvd_right _ _)
 have hm:Nat.gcd mA mB=1:=by rw [hA,hB];exact Nat.gcd_div_gcd_div_gcd_of_pos_left (Nat.pos_of_ne_zero a.den_nz)
 have hp:Nat.gcd t.natAbs mA=1:=zpP a.reduced ⟨_,(Nat.mul_comm mA _▸ea).symm⟩ hm ht
 have eh:Nat.gcd t.natAbs b.den*(b.den / Nat.gcd t.natAbs b.den)=b.den:=Nat.mul_div_cancel' (Nat.gcd_dvd_right _ _)
 have et:=ziE t (Nat.gcd t.natAbs b.den) (Nat.gcd_dvd_left _ _)
 have hq:Nat.gcd (t.natAbs / Nat.gcd t.natAbs b.den) (b.den / Nat.gcd t.natAbs b.den)=1:=Nat.gcd_div_gcd_div_gcd_of_pos_right (Nat.pos_of_ne_zero b.den_nz)
 have mA0:mA≠0:=λh=>a.den_nz (by rw [<-ea,h];rfl)
 have r0:b.den / Nat.gcd t.natAbs b.den≠0:=λh=>b.den_nz (by rw [<-eh,h];rfl)
 refine zoa (Nat.mul_ne_zero mA0 r0) ?_ ?_
 ·rw [zdM]
  refine Nat.Coprime.mul_right ?_ hq
  exact Nat.Coprime.coprime_dvd_left (Nat.div_dvd_of_dvd (Nat.gcd_dvd_left _ _)) hp
 ·have e1:a+b=Rat.divInt (a.num*b.den+b.num*a.den) ((a.den*b.den:Nat):Int):=by rw [Rat.add_def'];rfl
  have e2:a.num*(b.den:Int)+b.num*(a.den:Int)=(Nat.gcd a.den b.den:Int)*t:=by
   rw [ht]
   generalize Nat.gcd a.den b.den=g at*
   rw [<-eb,<-ea,Int.natCast_mul,Int.natCast_mul,Int.mul_add,Int.mul_left_comm,Int.mul_left_comm b.num]
  have e3:((a.den*b.den:Nat):Int)=(Nat.gcd a.den b.den:Int)*((mA*b.den:Nat):Int):=by
   generalize Nat.gcd a.den b.den=g at*
   rw [<-ea,Nat.mul_assoc,Int.natCast_mul]
  rw [e1,e2,e3,Rat.divInt_mul_left (by omega)]
  generalize Nat.gcd t.natAbs b.den=h at*
  have e4:((mA*b.den:Nat):Int)=(h:Int)*((mA*(b.den / h):Nat):Int):=by
   conv=>lhs;rw [<-eh]
   rw [Nat.mul_left_comm,Int.natCast_mul]
  rw [e4]
  conv=>lhs;rw [et]
  exact Rat.divInt_mul_left (by omega)
theorem zpl (a b:Rat):(a*b).num=zaU (decide (a.num<0) !=decide (b.num<0)) (a.num.natAbs / Nat.gcd a.num.natAbs b.den*(b.num.natAbs / Nat.gcd b.num.natAbs a.den))/\
  (a*b).den=a.den / Nat.gcd b.num.natAbs a.den*(b.den / Nat.gcd a.num.natAbs b.den):=by
 have g0:0<Nat.gcd a.num.natAbs b.den:=Nat.gcd_pos_of_pos_right _ (Nat.pos_of_ne_zero b.den_nz)
 have k0:0<Nat.gcd b.num.natAbs a.den:=Nat.gcd_pos_of_pos_right _ (Nat.pos_of_ne_zero a.den_nz)
 have ea:Nat.gcd b.num.natAbs a.den*(a.den / Nat.gcd b.num.natAbs a.den)=a.den:=Nat.mul_div_cancel' (Nat.gcd_dvd_right _ _)
 have eb:Nat.gcd a.num.natAbs b.den*(b.den / Nat.gcd a.num.natAbs b.den)=b.den:=Nat.mul_div_cancel' (Nat.gcd_dvd_right _ _)
 have ta:=ziE a.num _ (Nat.gcd_dvd_left a.num.natAbs b.den)
 have tb:=ziE b.num _ (Nat.gcd_dvd_left b.num.natAbs a.den)
 have c1:Nat.Coprime (a.num.natAbs / Nat.gcd a.num.natAbs b.den) (b.den / Nat.gcd a.num.natAbs b.den):=Nat.gcd_div_gcd_div_gcd_of_pos_right (Nat.pos_of_ne_zero b.den_nz)
 have c2:Nat.Coprime (b.num.natAbs / Nat.gcd b.num.natAbs a.den) (a.den / Nat.gcd b.num.natAbs a.den):=Nat.gcd_div_gcd_div_gcd_of_pos_right (Nat.pos_of_ne_zero a.den_nz)
 have c3 : Nat.Coprime (a.num.natAbs / Nat.gcd a.num.natAbs b.den) (a.den / Nat.gcd b.num.natAbs a.den) :=
  Nat.Coprime.coprime_dvd_left (Nat.div_dvd_of_dvd (Nat.gcd_dvd_left _ _)) (Nat.Coprime.coprime_dvd_right (Nat.div_dvd_of_dvd (Nat.gcd_dvd_right _ _)) a.reduced)
 have c4 : Nat.Coprime (b.num.natAbs / Nat.gcd b.num.natAbs a.den) (b.den / Nat.gcd a.num.natAbs b.den) :=
  Nat.Coprime.coprime_dvd_left (Nat.div_dvd_of_dvd (Nat.gcd_dvd_left _ _)) (Nat.Coprime.coprime_dvd_right (Nat.div_dvd_of_dvd (Nat.gcd_dvd_right _ _)) b.reduced)
 refine zoa (λh=>?_) ?_ ?_
 ·rcases Nat.mul_eq_zero.1 h with h|h
  ·rw [h] at ea;exact a.den_nz ea.symm
  ·rw [h] at eb;exact b.den_nz eb.symm
 ·rw [zdM]
  exact Nat.Coprime.mul_right (Nat.Coprime.mul_left c3 c2) (Nat.Coprime.mul_left c1 c4)
 ·have e1:a*b=Rat.divInt (a.num*b.num) ((a.den*b.den:Nat):Int):=by rw [Rat.mul_def'];rfl
  rw [e1,<-sgnI_mul]
  generalize a.num.natAbs / Nat.gcd a.num.natAbs b.den=x1 at*
  generalize b.num.natAbs / Nat.gcd b.num.natAbs a.den=x2 at*
  generalize b.den / Nat.gcd a.num.natAbs b.den=y2 at*
  generalize a.den / Nat.gcd b.num.natAbs a.den=y1 at*
  generalize Nat.gcd a.num.natAbs b.den=g at*
  generalize Nat.gcd b.num.natAbs a.den=k at*
  generalize zaU (decide (a.num<0)) x1=u1 at*
  generalize zaU (decide (b.num<0)) x2=u2 at*
  have e2:a.num*b.num=((g*k:Nat):Int)*(u1*u2):=by
   rw [ta,tb,Int.natCast_mul];simp only [Int.mul_assoc,Int.mul_left_comm]
  have e3:((a.den*b.den:Nat):Int)=((g*k:Nat):Int)*((y1*y2:Nat):Int):=by
   rw [<-ea,<-eb,<-Int.natCast_mul];congr 1;simp only [Nat.mul_left_comm,Nat.mul_comm]
  rw [e2,e3]
  exact Rat.divInt_mul_left (by have:=Nat.mul_pos g0 k0;omega)
theorem zpS {a b:Rat}(ha:a.den=1)(hb:b.den=1):(a+b)=((a.num+b.num:Int):Rat):=by
 have h1:a=((a.num:Int):Rat):=Rat.ext (by rw [Rat.num_intCast]) (by rw [Rat.den_intCast,ha])
 have h2:b=((b.num:Int):Rat):=Rat.ext (by rw [Rat.num_intCast]) (by rw [Rat.den_intCast,hb])
 rw [Rat.intCast_add,<-h1,<-h2]
theorem zgU {a b:Rat}(h:a=0\/b=0\/a.den=1/\b.den=1):(a*b)=((a.num*b.num:Int):Rat):=by
 rcases h with h|h|⟨ha,hb⟩
 ·subst h;rw [Rat.zero_mul,show(0:Rat).num=0 from rfl,Int.zero_mul];rfl
 ·subst h;rw [Rat.mul_zero,show(0:Rat).num=0 from rfl,Int.mul_zero];rfl
 ·have h1:a=((a.num:Int):Rat):=Rat.ext (by rw [Rat.num_intCast]) (by rw [Rat.den_intCast,ha])
  have h2:b=((b.num:Int):Rat):=Rat.ext (by rw [Rat.num_intCast]) (by rw [Rat.den_intCast,hb])
  rw [Rat.intCast_mul,<-h1,<-h2]
set_option maxRecDepth 100000
theorem zgx (x y:Nat)(A D:oA9)(n m c d:Nat)(w:World)(hA:zaf w x A n c)(hD:zaf w y D m d)(hn:n<=274877906944)(hm:m<=274877906944):
  Calls Tryz.prog 150 #[.agg #[.slice A n c],.agg #[.slice D m d]] w (zep w (x / y) (decide (y≠0))):=by
 by_cases hy:y=0
 ·have e:x / y=0:=by rw [hy,Nat.div_zero]
  have e2:decide (y≠0)=false:=by simp [hy]
  rw [e,e2]
  exact zfb 0 0 false A D n m c d w (λw' hb=>zfc x y A D n m c d w' (hA.below hb) (hD.below hb) hy)
 ·have e2:decide (y≠0)=true:=by simp [hy]
  rw [e2]
  exact zfb (x / y) (x%y) true A D n m c d w (λw' hb=>zdU x y A D n m c d w' (hA.below hb) (hD.below hb) (by omega) (by omega) hy)
theorem zmP (x y:Nat)(A D:oA9)(n m c d:Nat)(w:World)(hA:zaf w x A n c)(hD:zaf w y D m d)(hn:n<=1073741824)(hm:m<=1073741824)(hT:zal w):
  Calls Tryz.prog 127 #[.agg #[.slice A n c],.agg #[.slice D m d]] w (zjT w (x / Nat.gcd x y) (y / Nat.gcd x y)):=by
 have HO:=lh9 (λw' (hb:Below w.heap.size w w')=>gcd_of x y A D n m c d w' (hA.below hb) (hD.below hb) hn hm (hT.on hb))
 obtain⟨g,hg⟩:∃g,Nat.gcd x y=g:=⟨_,rfl⟩
 have lg:(dg 18446744073709551616 g).length<=2147483648:=by
  rw [<-hg]
  rcases Nat.eq_zero_or_pos x with e|e
  ·rw [e,Nat.gcd_zero_left,hD.len];omega
  ·exact Nat.le_trans (zbd (by decide) (Nat.gcd_le_left y e)) (by rw [hA.len];omega)
 rw [hg] at HO⊢
 have HDA:=lh9 (λw' (hb:Below w.heap.size w w') A1 n1 c1 (h1:zaf w' g A1 n1 c1)=>zgx x g A A1 n n1 c c1 w' (hA.below hb) h1 (by omega) (by rw [<-h1.len];omega))
 have HDB:=lh9 (λw' (hb:Below w.heap.size w w') A1 n1 c1 (h1:zaf w' g A1 n1 c1)=>zgx y g D A1 m n1 d c1 w' (hD.below hb) h1 (by omega) (by rw [<-h1.len];omega))
 obtain⟨X,hX⟩:∃g',x / g=g':=⟨_,rfl⟩
 obtain⟨Y,hY⟩:∃g',y / g=g':=⟨_,rfl⟩
 obtain⟨bb,hbb⟩:∃g':Bool,decide (g≠0)=g':=⟨_,rfl⟩
 rw [hX,hbb] at HDA
 rw [hY,hbb] at HDB
 rw [hX,hY]
 clear hA hD hT hg lg hX hY hbb
 go_enter Tryz.func127,Tryz.ntmps127
 go_wp2_with fail
 obtain⟨b1,b2,b3,b4,b5⟩:=zbq w 44 44 44 #[.slice A n c] #[.slice D m d] #[.slice none 0 0]
 obtain⟨W3,hW3⟩:∃W,((w.alloc (.cells #[.slice A n c] 44)).alloc (.cells #[.slice D m d] 44)).alloc (.cells #[.slice none 0 0] 44)=W:=⟨_,rfl⟩
 rw [hW3] at b1 b2 b3 b4 b5⊢
 have hs3:W3.heap.size=w.heap.size+1+1+1:=by rw [<-hW3];simp
 have kA:=b2.one.alloc (.cells #[.slice none 0 0] 44)
 have kD:=b3.one.alloc (.cells #[.slice none 0 0] 44)
 have kx:=b4.one.alloc (.cells #[.slice none 0 0] 44)
 have ky:=zbI.new W3 44 (.slice none 0 0)
 rw [hs3] at ky
 have hB:=b1.alloc b1.size (.cells #[.slice none 0 0] 44)
 clear b1 b2 b3 b4 b5 hW3 hs3
 generalize W3.alloc (.cells #[.slice none 0 0] 44)=W4 at*
 obtain⟨p,hp⟩:∃p,w.heap.size=p:=⟨_,rfl⟩
 have hpw:w.heap.size<=p:=by omega
 refine(HO.out _ hB).mono ?_
 rw [hp] at kA kD kx ky⊢
 clear hp
 rintro e w1 ⟨A1,n1,c1,rfl,hg1,hb⟩
 obtain⟨d1,d2,d3⟩:=zaA w1 44 #[.slice A1 n1 c1]
 have hbb:=zac hb d1
 have kA:=kA.keep hbb
 have kD:=kD.keep hbb
 have kx:=kx.keep hbb
 have ky:=ky.keep hbb
 have hB:=zac hB hbb
 have hg1:=hg1.below d1
 have kg:=d2.one
 clear d1 d2 d3 hb hbb
 have e1:=kA.cell
 have e2:=kg.cell
 go_wp2_with fail
 generalize hW5:w1.alloc (.cells #[.slice A1 n1 c1] 44)=W5 at*
 generalize w1.heap.size=z1 at*
 clear hW5
 refine(HDA.out _ hB A1 n1 c1 hg1).mono ?_
 clear e1 e2
 rintro e w2 ⟨A2,n2,c2,rfl,hx2,hb⟩
 have hz2:=(ky.keep hb).lt
 obtain⟨d1,d2,d3⟩:=zaA w2 44 #[.slice A2 n2 c2]
 have hbb:=zac hb d1
 have kD:=kD.keep hbb
 have kx:=kx.keep hbb
 have ky:=ky.keep hbb
 have kg:=kg.keep hbb
 have hB:=zac hB hbb
 have hg1:=hg1.below hbb
 have hx2:=hx2.below d1
 have k7:=d2.one
 clear d1 d2 d3 hb hbb kA
 have e1:=kD.cell
 have e2:=kg.cell
 go_wp2_with fail
 generalize hW6:w2.alloc (.cells #[.slice A2 n2 c2] 44)=W6 at*
 generalize w2.heap.size=z2 at*
 clear hW6
 refine(HDB.out _ hB A1 n1 c1 hg1).mono ?_
 clear e1 e2
 rintro e w3 ⟨A3,n3,c3,rfl,hy3,hb⟩
 have hz3:=(ky.keep hb).lt
 obtain⟨d1,d2,d3⟩:=zaA w3 44 #[.slice A3 n3 c3]
 have hbb:=zac hb d1
 have kx:=kx.keep hbb
 have ky:=ky.keep hbb
 have k7:=k7.keep hbb
 have hB:=zac hB hbb
 have hx2:=hx2.below hbb
 have hy3:=hy3.below d1
 have k9:=d2.one
 clear d1 d2 d3 hb hbb kD kg hg1
 go_wp2_with fail
 generalize hW7:w3.alloc (.cells #[.slice A3 n3 c3] 44)=W7 at*
 generalize w3.heap.size=z3 at*
 clear hW7
 have q7:W7.cell? ⟨z2,0,none⟩=some (.slice A2 n2 c2):=k7.cell
 have q9:W7.cell? ⟨z3,0,none⟩=some (.slice A3 n3 c3):=k9.cell
 have qx:W7.cell? ⟨p+1+1,0,none⟩=some (.slice none 0 0):=kx.cell
 have qy:W7.cell? ⟨p+1+1+1,0,none⟩=some (.slice none 0 0):=ky.cell
 have fx:W7.frozen? ⟨p+1+1,0,none⟩=false:=kx.frozen
 have fy:W7.frozen? ⟨p+1+1+1,0,none⟩=false:=ky.frozen
 have q9':=zah (q:=⟨p+1+1,0,none⟩) (.slice A2 n2 c2) (by show z3≠p+1+1;omega) q9
 have kx1:=kx.set_ (.slice A2 n2 c2)
 have ky1:=ky.far (p:=⟨p+1+1,0,none⟩) (by show p+1+1+1≠p+1+1;omega) (.slice A2 n2 c2)
 have qy':=ky1.cell
 have fy':=ky1.frozen
 have hx4:=zap hx2 kx (.slice A2 n2 c2)
 have hy4:=zap hy3 kx (.slice A2 n2 c2)
 have rx:=(kx1.far (p:=⟨p+1+1+1,0,none⟩) (by show p+1+1≠p+1+1+1;omega) (.slice A3 n3 c3)).cell
 have ry:=(ky1.set_ (.slice A3 n3 c3)).cell
 have HE : Hid (zjT w X Y (.returned (.tuple #[.agg #[.slice A2 n2 c2],.agg #[.slice A3 n3 c3]])) ((W7.setCell ⟨p + 1 + 1,0,none⟩ (.slice A2 n2 c2)).setCell ⟨p + 1 + 1 + 1,0,none⟩ (.slice A3 n3 c3)).drew) :=
  ⟨_,_,_,_,_,_,rfl,zap hx4 ky1 _,zap hy4 ky1 _,(hB.setCell (p:=⟨p+1+1,0,none⟩) (by show w.heap.size<=p+1+1;omega) _).setCell (p:=⟨p+1+1+1,0,none⟩) (by show w.heap.size<=p+1+1+1;omega) _|>.drew⟩
 clear k7 k9 kx ky hB hx2 hy3 kx1 ky1 hx4 hy4
 go_region
 all_goals
  go_wp2
  refine bodyPost_ret (v:=.tuple #[.agg #[.slice A2 n2 c2],.agg #[.slice A3 n3 c3]]) (by simp [results,Tryz.results127,go_sem,rx,ry]) rfl ?_
  exact HE.out
set_option linter.unusedSimpArgs false
theorem Sz.of_words {w:World}{x K n c:Nat}{A:oA9}(h:zaf w x A n c)(hn:n<=K):Sz K x:=by
 have h1:=zaS (b:=18446744073709551616) (by decide) x
 rw [h.len] at h1
 exact Nat.lt_of_lt_of_le h1 (Nat.pow_le_pow_right (by decide) hn)
theorem zcd:GcdC where
 of x y A D n m c d w hA hD hn hm hT:=gcd_of x y A D n m c d w hA hD hn hm hT
 reduce x y A D n m c d w hA hD hn hm hT:=zmP x y A D n m c d w hA hD hn hm hT
