/- What this claim leans on. -/
import Derived.Test.YtcojjcjgbepicaaGreatDoorSBunN
namespace Go.Proofs.YtcojjcjgbepicaaGreatDoor
open Go Go.RowKit
set_option maxHeartbeats 16000000
set_option maxRecDepth 100000
set_option linter.unusedVariables false
theorem nat_add (x y:Nat)(A D:oA9)(n m c d:Nat)(w:World)(hA:zad w x A n c)(hD:zad w y D m d)(hn:n<=549755813888)(hm:m<=549755813888):
  Calls Tryz.prog 207 #[.agg #[.slice A n c],.agg #[.slice D m d]] w (zaF w (x+y)):=by
 obtain⟨i0,hi0,hz0,hz1,hz2⟩:=info_parts zfV
 have hln:=lh9 hA.len
 have hlm:=lh9 hD.len
 have HA:=lh9 (λw' (hb:Below w.heap.size w w')=>hA.below hb)
 have HD:=lh9 (λw' (hb:Below w.heap.size w w')=>hD.below hb)
 obtain⟨N,hN⟩:∃N,max n m=N:=⟨_,rfl⟩
 have hN1:n<=N:=by omega
 have hN2:m<=N:=by omega
 have hN3:N<=549755813888:=by omega
 obtain⟨Z,hZ⟩:∃Z,madeCells (Value.cells (.int .u64 0)) ((N+1)*i0.size)=Z:=⟨_,rfl⟩
 have HZ:Hid (Z.size=N+1):=by show _=_;rw [<-hZ,size_madeCells,hz1,Nat.mul_one]
 have hmk:∀W:World,(Instr.makeSlice 47 (.int .i64 ((N:Int)+1)) (.int .i64 ((N:Int)+1))).run Tryz.prog W=.ok (.slice (some ⟨W.heap.size,0,none⟩) (N+1) (N+1)) (W.alloc (.cells Z 161)):=λW=>by
  rw [<-hZ];exact zaY _ _ i0 _ Tryz.underlying47 hi0 hz0 _ _ (N+1) (N+1) (Nat.le_refl _) (by rw [hz2];omega) (by omega) W
 have hw1:IntKind.i64.wrap ((N:Int)+1)=(N:Int)+1:=IntWalk.i64_in _ (by omega)
 have hmx1:(if (n:Int)<(m:Int) then(m:Int) else(n:Int))=(N:Int):=by split<;>omega
 have hmx2:(if n<m then(m:Int) else(n:Int))=(N:Int):=by split<;>omega
 have hmx3:(if (m:Int)>(n:Int) then(m:Int) else(n:Int))=(N:Int):=by split<;>omega
 clear hZ hA hD hN
 go_enter Tryz.func207,Tryz.ntmps207
 go_wp2_with fail
 generalize hW:((w.alloc (.cells #[.slice A n c] 49)).alloc (.cells #[.slice D m d] 49)).alloc (.cells #[.slice none 0 0] 49)=W0
 obtain⟨b1,b2,b3,b4,b5⟩:=zbA w 49 49 49 #[.slice A n c] #[.slice D m d] #[.slice none 0 0]
 rw [hW] at b1 b2 b3 b4 b5
 have g1:W0.cell? ⟨w.heap.size,0,none⟩=some (.slice A n c):=b2.cell 0
 have g2:W0.cell? ⟨w.heap.size+1,0,none⟩=some (.slice D m d):=b3.cell 0
 clear hW b2 b3
 have hb0:=b1.drew
 have hk0:=b4.drew
 go_region_held3 (fun w' => Below w.heap.size w w' ∧ w'.cell? ⟨w.heap.size,0,none⟩ = some (.slice A n c) ∧ w'.cell? ⟨w.heap.size + 1,0,none⟩ = some (.slice D m d) ∧ Blk w' (w.heap.size + 1 + 1) 49 #[.slice none 0 0])
  (first|(exact⟨hb0,g1,g2,hk0⟩)|(go_split_ands;(repeat' apply And.intro);all_goals (first|with_reducible assumption|exact zaa (by with_reducible assumption) hb|exact zac hb (by with_reducible assumption)|exact zab hb (by with_reducible assumption)|exact zai _ (by with_reducible assumption)|exact zak _ (by with_reducible assumption)|exact Blk.alloc (by with_reducible assumption) _|exact zae _ (by simp;omega) (by with_reducible assumption)|exact zag _ (by simp;omega) (by with_reducible assumption)|exact Blk.far (by with_reducible assumption) (by simp;omega) _)))
  (first
    |(go_at_call 151;refine(zbz x _ _ _ _).mono ?_;rintro e w' ⟨rfl,hb⟩))
 rename_i w1 hb1 hH
 obtain⟨hB,g1,g2,hk⟩:=hH
 have hgs:w.heap.size+3<=w'.heap.size:=by
  have h1:=hb1.size
  have h2:=hb.size
  have h3:W0.drew.heap.size=W0.heap.size:=rfl
  omega
 have hZ0:=Blk.new w' 161 Z
 generalize w'.alloc (.cells Z 161)=W1 at*
 generalize w'.heap.size=gs at*
 clear hmk hmx1 hmx2 hmx3 hb hb1 hb0 hk0 b1 b4 b5 hw1
 go_wp2_with fail
 go_loopg [6,7,17] (N + 2) (fun g v _ i wr => ∃ (k cc : Nat) (cs : Array Value) (out : List Nat),k ≤ N + 1 ∧ N + 1 < g + k ∧ i = .int .i64 k ∧ v = .int .u64 cc ∧ AddB x y k out cc ∧ cs.size = N + 1 ∧ cs.toList.take k = zax .u64 out ∧ Blk wr gs 161 cs ∧
   Below w.heap.size w wr/\wr.cell? ⟨w.heap.size,0,none⟩=some (.slice A n c)/\wr.cell? ⟨w.heap.size+1,0,none⟩=some (.slice D m d)/\Blk wr (w.heap.size+1+1) 49 #[.slice none 0 0])
 case atStart=>exact⟨0,0,Z,[],by omega,by omega,rfl,rfl,AddB.start x y,HZ.out,rfl,hZ0,hB,g1,g2,hk⟩
 case round=>
  clear hB g1 g2 hk hZ0
  obtain⟨k,cc,cs,out,hk,hg,rfl,rfl,hat,hsz,htk,hcs,hB,g1,g2,hkr⟩:=hrel
  have hcc:=hat.carry
  by_cases hlt:k<N+1
  ·have hst:=hat.step (s:=wd x k+wd y k+cc) rfl
   have ha1:=zcb x k
   have ha2:=zcb y k
   have WX:=lh9 (λw' (h:Below w.heap.size w w')=>zds x A n c k w' (HA.out w' h))
   have WY:=lh9 (λw' (h:Below w.heap.size w w')=>zds y D m d k w' (HD.out w' h))
   obtain⟨a,ha⟩:∃a,wd x k=a:=⟨_,rfl⟩
   obtain⟨b,hb⟩:∃a,wd y k=a:=⟨_,rfl⟩
   rw [ha] at WX ha1 hst
   rw [hb] at WY ha2 hst
   have WA:∀w',Calls Tryz.prog 217 #[.int .u64 a,.int .u64 b,.int .u64 cc] w' λe w''=>e=.returned (.tuple #[.int .u64 (((a+b+cc)%18446744073709551616:Nat):Int),.int .u64 (((a+b+cc) / 18446744073709551616:Nat):Int)])/\w'=w'':=λw'=>by
    rw [<-zjC hcc,<-zjB hcc]
    exact zmv a b cc ⟨by omega,by omega⟩ ⟨by omega,by omega⟩ ⟨by omega,by omega⟩ w'
   have HST:=lh9 hst
   have HSZ:=lh9 hsz
   have HTK:=lh9 htk
   obtain⟨s1,e1⟩:∃s1,(a+b+cc)%18446744073709551616=s1:=⟨_,rfl⟩
   obtain⟨s2,e2⟩:∃s2,(a+b+cc) / 18446744073709551616=s2:=⟨_,rfl⟩
   rw [e1,e2] at WA HST
   have HWA:=lh9 WA
   obtain⟨u,hu⟩:∃u,cs[k]?=some u:=⟨cs[k]'(by omega),Array.getElem?_eq_getElem (by omega)⟩
   have HU:=lh9 hu
   clear WA hst ha hb e1 e2 hat htk hu hsz
   have i1:(0:Int)<=(k:Int):=by omega
   have i2:(k:Int)<(N:Int)+1:=by omega
   go_wp2_with fail
   have hb0:=hB.drew
   have hk0:=hkr.drew
   have hc0:=hcs.drew
   go_region_held3 (λw'=>Below w.heap.size w w'/\w'.cell? ⟨w.heap.size,0,none⟩=some (.slice A n c)/\w'.cell? ⟨w.heap.size+1,0,none⟩=some (.slice D m d)/\Blk w' (w.heap.size+1+1) 49 #[.slice none 0 0])
   (first | (exact ⟨hb0,g1,g2,hk0⟩) | (go_split_ands; (repeat' apply And.intro); all_goals (first | with_reducible assumption | exact zaa (by with_reducible assumption) hb | exact zac hb (by with_reducible assumption) | exact zab hb (by with_reducible assumption) | exact zai _ (by with_reducible assumption) | exact zak _ (by with_reducible assumption) | exact Blk.alloc (by with_reducible assumption) _ | exact zae _ (by simp; omega) (by with_reducible assumption) | exact zag _ (by simp; omega) (by with_reducible assumption) | exact Blk.far (by with_reducible assumption) (by simp; omega) _)))
     (first
       |(go_at_call 172;with_reducible refine(WX.out _ (by first|with_reducible assumption|exact And.left (by with_reducible assumption))).mono ?_;rintro e w' ⟨rfl,hb⟩;have hk2:Blk w' gs 161 cs:=zab hb (by with_reducible assumption);have q1:=(hk2.cell k).trans HU.out;have q2:=hk2.frozen k)
       |(go_at_call 172;with_reducible refine(WY.out _ (by first|with_reducible assumption|exact And.left (by with_reducible assumption))).mono ?_;rintro e w' ⟨rfl,hb⟩;have hk2:Blk w' gs 161 cs:=zab hb (by with_reducible assumption);have q1:=(hk2.cell k).trans HU.out;have q2:=hk2.frozen k)
       |(go_at_call 217;with_reducible refine(HWA.out _).mono ?_;rintro e w'' ⟨rfl,rfl⟩))
   rename_i hH
   obtain⟨hB2,g3,g4,hk3⟩:=hH
   have hk4:=hk2.set_ k (.int .u64 s1)
   clear hb hk2 q1 q2 hb0 hk0 hc0 hB g1 g2 hkr hcs
   go_wp2
   go_roundg (N+1 - k)
   case measure=>omega
   case rel=>exact⟨k+1,s2,_,_,by omega,by omega,by go_num,rfl,HST.out,by simpa using HSZ.out,by rw [zjb _ _ _ (by have:=HSZ.out;omega),HTK.out,zez],hk4,hB2,g3,g4,hk3⟩
  ·have hkN:k=N+1:=by omega
   subst hkN
   have e:=hat.done (by have:=hln.out;omega) (by have:=hlm.out;omega)
   have hol:out.length=N+1:=hat.len
   have T:=zfl (some ⟨gs,0,none⟩) (N+1) (N+1) wr.heap.size out wr (zdD hcs hsz htk hol) hat.dgs (Nat.le_refl _) (by omega) (by omega)
   rw [e] at T
   have HT:=lh9 T
   have hc1:wr.cell? ⟨w.heap.size+1+1,0,none⟩=some (.slice none 0 0):=hkr.cell 0
   have hf1:=hkr.frozen 0
   clear T hcs hsz htk hat e hol hkr g1 g2
   go_wp2_with fail
   refine HT.out.mono ?_
   rintro e w2 ⟨A1,c1,rfl,hr1,h1,h2,hA1,rfl⟩
   have G:=zfP hB (p:=w.heap.size+1+1) (gs:=gs) (by omega) (by omega) hr1 h1 h2 hA1 (by omega) (.slice A1 (dg 18446744073709551616 (x+y)).length c1)
   have HG:Hid (zaF w (x+y) (.returned (.agg #[.slice A1 (dg 18446744073709551616 (x+y)).length c1])) (wr.setCell ⟨w.heap.size+1+1,0,none⟩ (.slice A1 (dg 18446744073709551616 (x+y)).length c1))):=⟨_,_,_,rfl,G.2.1,G.1,G.2.2⟩
   clear G hr1 h1 h2 hA1
   obtain⟨L,hL⟩:∃L,(dg 18446744073709551616 (x+y)).length=L:=⟨_,rfl⟩
   rw [hL] at HG⊢
   clear hL
   go_wp2
   refine bodyPost_ret (v:=.agg #[.slice A1 L c1]) (by simp [results,Tryz.results207,go_sem,hc1]) rfl ?_
   exact HG.out
theorem znl (x y:Nat)(A D:oA9)(n m c d:Nat)(w:World)(hA:zad w x A n c)(hD:zad w y D m d)(hn:n<=549755813888)(hm:m<=549755813888)(hlt:x<y):
  Calls Tryz.prog 208 #[.agg #[.slice A n c],.agg #[.slice D m d]] w (zfD w 0 false):=by
 have CC:=lh9 (λw' (hb:Below w.heap.size w w')=>zeO x y A D n m c d w' (hA.below hb) (hD.below hb) (by omega) (by omega))
 rw [zdY hlt] at CC
 clear hA hD hlt
 go_enter Tryz.func208,Tryz.ntmps208
 go_wp2_with fail
 generalize hW:((w.alloc (.cells #[.slice A n c] 49)).alloc (.cells #[.slice D m d] 49)).alloc (.cells #[.slice none 0 0] 49)=W0
 obtain⟨b1,b2,b3,b4,b5⟩:=zbA w 49 49 49 #[.slice A n c] #[.slice D m d] #[.slice none 0 0]
 rw [hW] at b1 b2 b3 b4 b5
 clear hW b2 b3
 refine(CC.out _ b1).mono ?_
 rintro e w1 ⟨rfl,hb⟩
 have hB:=zaa b1 hb
 have hk:=zab hb b4
 have hc1:w1.cell? ⟨w.heap.size+1+1,0,none⟩=some (.slice none 0 0):=hk.cell 0
 have hf1:=hk.frozen 0
 have HG:Hid (zfD w 0 false (.returned (.tuple #[.agg #[.slice none 0 0],.bool false])) (w1.setCell ⟨w.heap.size+1+1,0,none⟩ (.slice none 0 0))):=⟨_,_,_,rfl,zgq _,zae _ (by show _<=w.heap.size+1+1;omega) hB,zel.none_ _⟩
 clear hB hk hb b1 b4
 go_wp2
 refine bodyPost_ret (v:=.tuple #[.agg #[.slice none 0 0],.bool false]) (by simp [results,Tryz.results208,go_sem,hc1]) rfl ?_
 exact HG.out
theorem zof (x y:Nat)(A D:oA9)(n m c d:Nat)(w:World)(hA:zad w x A n c)(hD:zad w y D m d)(hn:n<=549755813888)(hm:m<=549755813888)(hle:y<=x):
  Calls Tryz.prog 208 #[.agg #[.slice A n c],.agg #[.slice D m d]] w (zfD w (x - y) true):=by
 obtain⟨i0,hi0,hz0,hz1,hz2⟩:=info_parts zfV
 have hln:=lh9 hA.len
 have HA:=lh9 (λw' (hb:Below w.heap.size w w')=>hA.below hb)
 have HD:=lh9 (λw' (hb:Below w.heap.size w w')=>hD.below hb)
 have HLE:=lh9 hle
 have hz0':=cmpI_ge hle
 have CC:=(λw' (hb:Below w.heap.size w w')=>zeO x y A D n m c d w' (hA.below hb) (hD.below hb) (by omega) (by omega))
 obtain⟨z,hz⟩:∃z,zcr x y=z:=⟨_,rfl⟩
 rw [hz] at CC hz0'
 have HC:=lh9 CC
 have hzl:¬ z<0:=by omega
 have hzd:decide (z<0)=false:=by simpa using hz0'
 obtain⟨Z,hZ⟩:∃Z,madeCells (Value.cells (.int .u64 0)) (n*i0.size)=Z:=⟨_,rfl⟩
 have HZ:Hid (Z.size=n):=by show _=_;rw [<-hZ,size_madeCells,hz1,Nat.mul_one]
 have hmk:∀W:World,(Instr.makeSlice 47 (.int .i64 (n:Int)) (.int .i64 (n:Int))).run Tryz.prog W=.ok (.slice (some ⟨W.heap.size,0,none⟩) n n) (W.alloc (.cells Z 161)):=λW=>by
  rw [<-hZ];exact zaY _ _ i0 _ Tryz.underlying47 hi0 hz0 _ _ n n (Nat.le_refl _) (by rw [hz2];omega) (by omega) W
 clear hZ hA hD hle CC hz
 go_enter Tryz.func208,Tryz.ntmps208
 go_wp2_with fail
 generalize hW:((w.alloc (.cells #[.slice A n c] 49)).alloc (.cells #[.slice D m d] 49)).alloc (.cells #[.slice none 0 0] 49)=W0
 obtain⟨b1,b2,b3,b4,b5⟩:=zbA w 49 49 49 #[.slice A n c] #[.slice D m d] #[.slice none 0 0]
 rw [hW] at b1 b2 b3 b4 b5
 have g1:W0.cell? ⟨w.heap.size,0,none⟩=some (.slice A n c):=b2.cell 0
 have g2:W0.cell? ⟨w.heap.size+1,0,none⟩=some (.slice D m d):=b3.cell 0
 clear hW b2 b3
 refine(HC.out _ b1).mono ?_
 rintro e w1 ⟨rfl,hb⟩
 have hB:=zaa b1 hb
 have hk:=zab hb b4
 have g3:=zac hb g1
 have g4:=zac hb g2
 have hs1:=hb.size
 clear hb g1 g2 b1 b4
 go_wp2_with fail
 refine(zbz x _ _ _ _).mono ?_
 rintro e w2 ⟨rfl,hb⟩
 have hB:=zaa hB hb
 have hk:=zab hb hk
 have g1:=zac hb g3
 have g2:=zac hb g4
 have hs2:=hb.size
 have hgs:w.heap.size+3<=w2.heap.size:=by omega
 clear hb g3 g4 hs1 hs2 b5
 go_wp2_with fail
 have hZ0:=Blk.new w2 161 Z
 have hB:=zai (.cells Z 161) hB
 have hk:=hk.alloc (.cells Z 161)
 have g1:=zak (.cells Z 161) g1
 have g2:=zak (.cells Z 161) g2
 generalize w2.alloc (.cells Z 161)=W1 at*
 generalize w2.heap.size=gs at*
 clear hmk
 go_loopg [7,8,19] (n + 1) (fun g v _ i wr => ∃ (k cc : Nat) (cs : Array Value) (out : List Nat),k ≤ n ∧ n < g + k ∧ i = .int .i64 k ∧ v = .int .u64 cc ∧ SubB x y k out cc ∧ cs.size = n ∧ cs.toList.take k = zax .u64 out ∧ Blk wr gs 161 cs ∧
   Below w.heap.size w wr/\wr.cell? ⟨w.heap.size,0,none⟩=some (.slice A n c)/\wr.cell? ⟨w.heap.size+1,0,none⟩=some (.slice D m d)/\Blk wr (w.heap.size+1+1) 49 #[.slice none 0 0])
 case atStart=>exact⟨0,0,Z,[],by omega,by omega,rfl,rfl,SubB.start x y,HZ.out,rfl,hZ0,hB,g1,g2,hk⟩
 case round=>
  clear hB g1 g2 hk hZ0
  obtain⟨k,cc,cs,out,hk,hg,rfl,rfl,hat,hsz,htk,hcs,hB,g1,g2,hkr⟩:=hrel
  have hcc:=hat.lack
  by_cases hlt:k<n
  ·have hst:=λd c'=>hat.step (d:=d) (c':=c')
   have ha1:=zcb x k
   have ha2:=zcb y k
   have hWA:=(HA.out wr hB).1
   obtain⟨ad,rfl,hadb,hx⟩:=zdi hWA hlt
   have hadw:ad.block<w.heap.size:=by
    obtain⟨ad',e,hb',_⟩:=(HA.out w (Below.refl _ _)).1.2 (by omega)
    cases e
    exact hb'
   rw [zej] at hx
   have WY:=lh9 (λw' (h:Below w.heap.size w w')=>zds y D m d k w' (HD.out w' h))
   obtain⟨a,ha⟩:∃a,wd x k=a:=⟨_,rfl⟩
   obtain⟨b,hb⟩:∃a,wd y k=a:=⟨_,rfl⟩
   rw [ha] at hx ha1 hst
   rw [hb] at WY ha2 hst
   obtain⟨s1,s2,e1,e2,e3,e4,e5⟩:=zld ha1 ha2 hcc
   have WA:∀w',Calls Tryz.prog 218 #[.int .u64 a,.int .u64 b,.int .u64 cc] w' λe w''=>e=.returned (.tuple #[.int .u64 (s1:Int),.int .u64 (s2:Int)])/\w'=w'':=λw'=>by
    rw [<-e1,<-e2]
    exact zmy a b cc ⟨by omega,by omega⟩ ⟨by omega,by omega⟩ ⟨by omega,by omega⟩ w'
   have HST:=lh9 (hst s1 s2 e3 e4 e5)
   have HSZ:=lh9 hsz
   have HTK:=lh9 htk
   have HWA:=lh9 WA
   obtain⟨u,hu⟩:∃u,cs[k]?=some u:=⟨cs[k]'(by omega),Array.getElem?_eq_getElem (by omega)⟩
   have HU:=lh9 hu
   clear WA hst ha hb e1 e2 e3 e4 e5 hat htk hu hsz hWA hadb
   have i1:(0:Int)<=(k:Int):=by omega
   have i2:(k:Int)<(n:Int):=by omega
   go_wp2_with fail
   have hb0:=hB.drew
   have hk0:=hkr.drew
   have hc0:=hcs.drew
   have hx0:wr.drew.cell? (ad.add k)=some (.int .u64 a):=hx
   go_region_held3 (fun w' => Below w.heap.size w w' ∧ w'.cell? ⟨w.heap.size,0,none⟩ = some (.slice (some ad) n c) ∧ w'.cell? ⟨w.heap.size + 1,0,none⟩ = some (.slice D m d) ∧ Blk w' (w.heap.size + 1 + 1) 49 #[.slice none 0 0] ∧ w'.cell? (ad.add k) = some (.int .u64 a))
    (first|(exact⟨hb0,g1,g2,hk0,hx0⟩)|(go_split_ands;(repeat' apply And.intro);all_goals (first|with_reducible assumption|exact zaa (by with_reducible assumption) hb|exact zac hb (by with_reducible assumption)|exact zab hb (by with_reducible assumption)|exact zai _ (by with_reducible assumption)|exact zak _ (by with_reducible assumption)|exact Blk.alloc (by with_reducible assumption) _|exact zae _ (by simp;omega) (by with_reducible assumption)|exact zag _ (by simp;omega) (by with_reducible assumption)|exact zag _ (by rw [zao];simp;omega) (by with_reducible assumption)|exact Blk.far (by with_reducible assumption) (by simp;omega) _)))
    (first
      |(go_at_call 172;with_reducible refine(WY.out _ (by first|with_reducible assumption|exact And.left (by with_reducible assumption))).mono ?_;rintro e w' ⟨rfl,hb⟩;have hk2:Blk w' gs 161 cs:=zab hb (by with_reducible assumption);have q1:=(hk2.cell k).trans HU.out;have q2:=hk2.frozen k)
      |(go_at_call 218;with_reducible refine(HWA.out _).mono ?_;rintro e w'' ⟨rfl,rfl⟩))
   rename_i hH
   obtain⟨hB2,g3,g4,hk3,_⟩:=hH
   have hk4:=hk2.set_ k (.int .u64 s1)
   clear hb hk2 q1 q2 hb0 hk0 hc0 hB g1 g2 hkr hcs hx hx0
   go_wp2
   go_roundg (n - k)
   case measure=>omega
   case rel=>exact⟨k+1,s2,_,_,by omega,by omega,by go_num,rfl,HST.out,by simpa using HSZ.out,by rw [zjb _ _ _ (by have:=HSZ.out;omega),HTK.out,zez],hk4,hB2,g3,g4,hk3⟩
  ·have hkN:k=n:=by omega
   subst hkN
   have e:=hat.done HLE.out (by have:=hln.out;omega)
   have hol:out.length=k:=hat.len
   have T:=zfl (some ⟨gs,0,none⟩) k k wr.heap.size out wr (zdD hcs hsz htk hol) hat.dgs (Nat.le_refl _) (by omega) (by omega)
   rw [e] at T
   have HT:=lh9 T
   have hc1:wr.cell? ⟨w.heap.size+1+1,0,none⟩=some (.slice none 0 0):=hkr.cell 0
   have hf1:=hkr.frozen 0
   clear T hcs hsz htk hat e hol hkr g1 g2
   go_wp2_with fail
   refine HT.out.mono ?_
   rintro e w2 ⟨A1,c1,rfl,hr1,h1,h2,hA1,rfl⟩
   have G:=zfP hB (p:=w.heap.size+1+1) (gs:=gs) (by omega) (by omega) hr1 h1 h2 hA1 (by omega) (.slice A1 (dg 18446744073709551616 (x - y)).length c1)
   have HG:Hid (zfD w (x - y) true (.returned (.tuple #[.agg #[.slice A1 (dg 18446744073709551616 (x - y)).length c1],.bool true])) (wr.setCell ⟨w.heap.size+1+1,0,none⟩ (.slice A1 (dg 18446744073709551616 (x - y)).length c1))):=⟨_,_,_,rfl,G.2.1,G.1,G.2.2⟩
   clear G hr1 h1 h2 hA1
   obtain⟨L,hL⟩:∃L,(dg 18446744073709551616 (x - y)).length=L:=⟨_,rfl⟩
   rw [hL] at HG⊢
   clear hL
   go_wp2
   refine bodyPost_ret (v:=.tuple #[.agg #[.slice A1 L c1],.bool true]) (by simp [results,Tryz.results208,go_sem,hc1]) rfl ?_
   exact HG.out
