/- What this claim leans on. -/
import Derived.Test.YtlgnacmgepnamaaGreatDoorKS8Sum
namespace Go.Proofs.YtlgnacmgepnamaaGreatDoor
open Go Go.RowKit
set_option maxHeartbeats 16000000
set_option maxRecDepth 100000
set_option linter.unusedVariables false
set_option linter.unusedSimpArgs false
theorem zlt {p:Int}{w:World}(hT:zal w)(hp:zbg p):
  Calls Tryz.prog 70 #[.agg #[.int .i64 p,.int .i64 0]] w (zaJ w (qOf p 0)):=by
 rw [zlS]
 obtain⟨hp1,hp2⟩:=hp
 have HT:=lh9 (λw' (hb:Below w.heap.size w w')=>hT.on hb)
 obtain⟨bx1,bx2,bx3,bz⟩:=zbe w 61 48 #[.int .i64 p,.int .i64 0] #[.bool false,.slice none 0 0,.slice none 0 0]
 obtain⟨g0,g1⟩:=bx2.c2
 have HB:=lh9 bx1
 have HK:=lh9 bx3
 clear hT bx1 bx2 bx3 bz
 go_enter Tryz.func70,Tryz.ntmps70
 go_wp2_with fail
 clear g0 g1
 (with_reducible refine(zhy p _ (HT.out _ HB.out) hp1 hp2).mono ?_)
 rintro e w2 ⟨b2,A2,n2,c2,E2,k2,f2,rfl,hw2,hb⟩
 have hk2:=zae hb HK.out
 obtain⟨sc0,sf0,sc1,sf1,sc2,sf2⟩:=st3 hk2 (.bool b2) (.slice A2 n2 c2)
 obtain⟨r0,r1,r2⟩:=(sn3 hk2 (.bool b2) (.slice A2 n2 c2) (.slice E2 k2 f2)).c3
 have HG:=lh9 (gq3 hw2 hk2 (zac HB.out hb) (by omega))
 clear hb hk2 hw2 HB HK
 go_wp2
 refine bodyPost_ret (v:=.agg #[.bool b2,.slice A2 n2 c2,.slice E2 k2 f2]) (by simp [results,Tryz.results70,go_sem,r0,r1,r2]) rfl ?_
 exact HG.out
theorem zlu {p q:Int}{w:World}(hT:zal w)(hp:zbg p)(hq:zbg q)(h0:q≠0):
  Calls Tryz.prog 70 #[.agg #[.int .i64 p,.int .i64 q]] w (zaJ w (qOf p q)):=by
 rw [qOf_ne h0]
 obtain⟨hp1,hp2⟩:=hp
 obtain⟨hq1,hq2⟩:=hq
 have H0:=lh9 h0
 have hd0:(q==0)=false:=by rw [beq_eq_false_iff_ne];exact h0
 have HT:=lh9 (λw' (hb:Below w.heap.size w w')=>hT.on hb)
 obtain⟨bx1,bx2,bx3,bz⟩:=zbe w 61 48 #[.int .i64 p,.int .i64 q] #[.bool false,.slice none 0 0,.slice none 0 0]
 obtain⟨g0,g1⟩:=bx2.c2
 have HB:=lh9 bx1
 have HK:=lh9 bx3
 clear hT bx1 bx2 bx3 bz h0
 go_enter Tryz.func70,Tryz.ntmps70
 go_wp2_with fail
 clear g0 g1
 (with_reducible refine(rat_of p q _ (HT.out _ HB.out) hp1 hp2 hq1 hq2 H0.out).mono ?_)
 rintro e w2 ⟨b2,A2,n2,c2,E2,k2,f2,rfl,hw2,hb⟩
 obtain⟨s1,s2,s3⟩:=zaA w2 48 #[.bool b2,.slice A2 n2 c2,.slice E2 k2 f2]
 obtain⟨p0,p1,p2⟩:=s2.c3
 have hk2:=zae s1 (zae hb HK.out)
 have hw3:=hw2.below s1
 obtain⟨sc0,sf0,sc1,sf1,sc2,sf2⟩:=st3 hk2 (.bool b2) (.slice A2 n2 c2)
 obtain⟨r0,r1,r2⟩:=(sn3 hk2 (.bool b2) (.slice A2 n2 c2) (.slice E2 k2 f2)).c3
 have HG:=lh9 (gq3 hw3 hk2 (zac (zac HB.out hb) s1) (by omega))
 clear hb hk2 hw2 hw3 HB HK s1 s2 s3
 go_wp2
 refine bodyPost_ret (v:=.agg #[.bool b2,.slice A2 n2 c2,.slice E2 k2 f2]) (by simp [results,Tryz.results70,go_sem,r0,r1,r2]) rfl ?_
 exact HG.out
theorem zpa {p q:Int}{w:World}(hT:zal w)(hp:zbg p)(hq:zbg q):
  Calls Tryz.prog 70 #[.agg #[.int .i64 p,.int .i64 q]] w (zaJ w (qOf p q)):=by
 by_cases h0:q=0
 ·subst h0;exact zlt hT hp
 ·exact zlu hT hp hq h0
def zcj (L:List (Int×Int)):List Rat:=L.map λq=>qOf q.1 q.2
theorem zcP (L:List (Int×Int)):(zcj L).length=L.length:=List.length_map _
def GivesM (w:World)(n:Nat)(xs:List Rat)(e:Ending)(w':World):Prop:=∃(A:oA9) (c:Nat),e=.returned (.slice A n c)/\zaK w' A n c xs/\(∀ad,A=some ad->w.heap.size<=ad.block)/\Below w.heap.size w w'
theorem zmU {A:oA9}{n c:Nat}{L:List (Int×Int)}{w:World}(hT:zal w)(h:zaY w A n c L):
  Calls Tryz.prog 36 #[.slice A n c] w (GivesM w n (zcj L)):=by
 obtain⟨i1',hi1,hz10,hz11,hz12⟩:=info_parts info10
 have hn0:n<=1048576:=Nat.le_trans h.fits h.small
 have HL:=lh9 h.len
 have HG:Hid (∀k,k<n->zbg (L.getD k (0,0)).1/\zbg (L.getD k (0,0)).2/\∃ad,A=some ad/\ad.block<w.heap.size/\w.cell? (ad.add (k*2))=some (.int .i64 (L.getD k (0,0)).1)/\w.cell? (ad.add (k*2+1))=some (.int .i64 (L.getD k (0,0)).2)):=λk hk=>by
  have hl:=h.len
  have e:L[k]?=some (L.getD k (0,0)):=by rw [List.getD_eq_getElem?_getD,List.getElem?_eq_getElem (by omega)];rfl
  obtain⟨h1,h2⟩:=h.ints _ (List.mem_of_getElem? e)
  exact⟨h1,h2,h.row k _ e⟩
 have HS:Hid (∀k,k<n->zcj (L.take (k+1))=zcj (L.take k)++[qOf (L.getD k (0,0)).1 (L.getD k (0,0)).2]):=λk hk=>by
  have hl:=h.len
  unfold zcj
  rw [List.take_succ_eq_append_getElem (by omega),List.map_append,List.getD_eq_getElem?_getD,List.getElem?_eq_getElem (by omega)]
  rfl
 have HT:=lh9 (λw' (hb:Below w.heap.size w w')=>hT.on hb)
 unfold GivesM
 clear h hT
 have hB:=Below.refl w.heap.size w
 go_enter Tryz.func36,Tryz.ntmps36
 go_wp2_with fail
 go_loopg [3,4] (n+1) (λg sl ix wr=>∃(k:Nat) (v:Value) (vs:List Value),k<=n/\n<g+k/\ix=.int .i64 k/\v=sl/\zcT zan wr w.heap.size 48 v (zcj (L.take k)) vs/\Below w.heap.size w wr)
 case atStart=>exact⟨0,_,_,Nat.zero_le _,by omega,rfl,rfl,zcT.nil _ _ _,hB⟩
 case round=>
  clear hB
  obtain⟨k,v,vs,hkn,hg,rfl,rfl,hon,hB⟩:=hrel
  by_cases hlt:k<n
  ·obtain⟨hi1',hi2',ad,rfl,hadb,hc0,hc1⟩:=HG.out k hlt
   have HSK:=lh9 (HS.out k hlt)
   obtain⟨q,hq⟩:∃q,L.getD k (0,0)=q:=⟨_,rfl⟩
   rw [hq] at hi1' hi2' hc0 hc1 HSK
   obtain⟨q1,q2⟩:=q
   dsimp only at hi1' hi2' hc0 hc1 HSK
   have hc0:=zad hB hc0
   have hc1:=zgl (zad hB hc1)
   have hd1:decide ((k:Int)<(n:Int))=true:=decide_eq_true (by omega)
   have i1:(0:Int)<=(k:Int):=by omega
   have i2:(k:Int)<(n:Int):=by omega
   have HON0:=lh9 hon
   have HB0:=lh9 hB
   have HI1:=lh9 hi1'
   have HI2:=lh9 hi2'
   have hlq:(zcj (L.take k)).length=k:=by rw [zcP,List.length_take,HL.out];omega
   have HLQ:=lh9 hlq
   clear hon hB hi1' hi2' hq hlq
   go_wp2_with fail
   (with_reducible refine(zpa (HT.out _ HB0.out) HI1.out HI2.out).mono ?_)
   rintro e w5 ⟨b5,B5,m5,d5,E5,u5,f5,rfl,hx5,hb⟩
   obtain⟨t1,t2,_⟩:=zaA w5 48 #[.bool b5,.slice B5 m5 d5,.slice E5 u5 f5]
   obtain⟨t20,t21,t22⟩:=t2.c3
   have hup:=zac hb t1
   have hon:=zcT.below zaq HON0.out hup
   have HX:=lh9 (hx5.below t1)
   have HB:=lh9 (zac HB0.out hup)
   have hcell:∀j u,[Value.bool b5,.slice B5 m5 d5,.slice E5 u5 f5][j]?=some u->(w5.alloc (.cells #[.bool b5,.slice B5 m5 d5,.slice E5 u5 f5] 48)).cell? ((⟨w5.heap.size,0,none⟩:Addr).add j)=some u:=λj u hu=>by
    rw [zaM]
    match j,hu with
    |0,hu=>simp at hu;subst hu;exact t2.cell 0
    |1,hu=>simp at hu;subst hu;exact t2.cell 1
    |2,hu=>simp at hu;subst hu;exact t2.cell 2
   have HCELL:=lh9 hcell
   have HONE:Hid (∀u ∈ [Value.bool b5,.slice B5 m5 d5,.slice E5 u5 f5],u.oneCell'=true):=by intro u hu;simp at hu;rcases hu with rfl|rfl|rfl<;>rfl
   have HNN:Hid (∀u ∈ [Value.bool b5,.slice B5 m5 d5,.slice E5 u5 f5],zgG u):=by intro u hu y z;simp at hu;rcases hu with rfl|rfl|rfl<;>(intro h9;cases h9)
   have HZN:Hid (∀u ∈(Value.agg #[.bool false,.slice none 0 0,.slice none 0 0]).cells.toList,zgG u):=by intro u hu y z;simp [Value.cells] at hu;rcases hu with rfl|rfl<;>(intro h9;cases h9)
   have HBS:Hid (w.heap.size<=(w5.alloc (.cells #[.bool b5,.slice B5 m5 d5,.slice E5 u5 f5] 48)).heap.size):=HB.out.size
   have hown:=hon.own
   rw [HLQ.out] at hown
   have HOWN:=lh9 hown
   have HNOU:=lh9 hon.nou
   have HON:=lh9 hon
   have HOB:=lh9 (λr (h:v.ownBlock=some r)=>hon.own.lt r h)
   clear hb hup hx5 hcell hon t1 t2 hc0 hc1 t20 t21 t22 hown
   go_wp2_with (at_builtin;go_loud (refine zcR _ rfl (.tmp 11) (.tmp 17) 51 rfl w.heap.size 48 i1' (.agg #[.bool false,.slice none 0 0,.slice none 0 0]) 3 56 Tryz.underlying51 hi1 hz10 hz11 hz12 rfl (by decide) v k vs rfl HOWN.out ⟨w5.heap.size,0,none⟩ 1 1 [.bool b5,.slice B5 m5 d5,.slice E5 u5 f5] rfl rfl HCELL.out HONE.out (by unfold maxLen;omega) (by omega) HBS.out HNOU.out HZN.out HNN.out ?_;intro v' w8 hown' hgrow hat hnou';have HON8:=lh9 (zcT.grow (n:=k+1) zaq HON.out HX.out hown' (by rw [HLQ.out]) hgrow hnou');have HB8:=lh9 (HB.out.grown hgrow HBS.out (λr hr=>(HOB.out r hr).1));clear hown' hgrow hat hnou'))
   rw [<-HSK.out] at HON8
   go_roundg (n - k)
   case measure=>omega
   case rel=>exact⟨k+1,_,_,by omega,by omega,by go_num,rfl,HON8.out,HB8.out⟩
  ·have hd1:decide ((k:Int)<(n:Int))=false:=decide_eq_false (by omega)
   have hk:k=n:=by omega
   subst hk
   rw [List.take_of_length_le (by rw [HL.out];exact Nat.le_refl _)] at hon
   have hlq:(zcj L).length=k:=by rw [zcP];exact HL.out
   obtain⟨A1,c1,rfl,hv,hf⟩:=hon.shape
   rw [hlq] at hv⊢
   have HV:=lh9 hv
   have HF:=lh9 hf
   have HB1:=lh9 hB
   clear hon hv hB hlq hf
   go_wp2
   go_ret
   exact⟨A1,c1,rfl,HV.out,HF.out,HB1.out⟩
theorem zmd {w:World}{z:Int}{b:Bool}{A:oA9}{n c:Nat}{F:oA9}{k f:Nat}(h:zbQ w z b A n c)(h1:zak w 1 F k f):zca w (z:Rat) b A n c F k f:=⟨by rw [Rat.num_intCast];exact h,by rw [Rat.den_intCast];exact h1⟩
theorem zlB {m:Nat}:(#[Value.int .u64 (m:Int)]:Array Value).toList=zat .u64 [m]:=rfl
theorem znY (m:Nat):dv 18446744073709551616 [m]=m:=by simp [dv]
theorem zlc {m:Nat}(h:m<18446744073709551616):Dgs 18446744073709551616 [m]:=by intro d hd;simp at hd;omega
theorem zlY (m:Nat)(r:Rat)(hr:((m:Int):Rat)=r)(w:World)(hm:m<=9223372036854775807):
  Calls Tryz.prog 54 #[.int .i64 (m:Int)] w (zdP w r):=by
 have hd0:decide ((m:Int)<0)=false:=decide_eq_false (by omega)
 have hw1:IntKind.u64.wrap (m:Int)=(m:Int):=by rw [IntKind.wrap_u64];omega
 have HZ:Hid (Sz 1 m):=by show m<18446744073709551616^1;rw [Nat.pow_one];omega
 have HM:Hid (m<18446744073709551616):=by show _<_;omega
 have HR:=lh9 hr
 obtain⟨y1,y2,y3,-⟩:=zbe w 94 121 #[.bool false,.slice none 0 0,.slice none 0 0] #[.int .u64 (m:Int)]
 have HB:=lh9 y1
 have HK:=lh9 y2
 have HL:=lh9 y3
 clear y1 y2 y3 hm hr
 go_enter Tryz.func54,Tryz.ntmps54
 go_wp2_with fail
 generalize (w.alloc (.cells #[.bool false,.slice none 0 0,.slice none 0 0] 94)).alloc (.cells #[.int .u64 (m:Int)] 121)=W1 at*
 (with_reducible refine(zov #[.int .u64 (m:Int)] [m] _ _ 1 m HL.out rfl zlB (zlc HM.out) (znY m) (by decide)).mono ?_)
 intro e w1 hg
 obtain⟨C1,r1,f1,rfl,hh,hb⟩:=hg.elim
 have HB:=lh9 (zac HB.out hb)
 have HK:=lh9 (zae hb HK.out)
 have HH:=lh9 hh
 clear hb hg hh HL
 go_wp2_with fail
 (with_reducible refine(zeh false m C1 r1 f1 _ HH.out (szh HZ HH.out)).mono ?_)
 rintro e w2 ⟨b2,A2,n2,c2,rfl,hz,hb⟩
 have hB2:=zac HB.out hb
 have hk2:=zae hb HK.out
 obtain⟨s1,s2,-⟩:=zaA w2 3 #[.int .i64 1]
 have h1:=zdG s2
 have hz2:zbQ (w2.alloc (.cells #[.int .i64 1] 3)) (m:Int) b2 A2 n2 c2:=by
  have e:sgI false m=(m:Int):=by unfold sgI;simp
  rw [<-e];exact hz.below s1
 have hq:=zmd hz2 h1
 rw [HR.out] at hq
 have hk3:=zae s1 hk2
 obtain⟨sc0,sf0,sc1,sf1,sc2,sf2⟩:=st3 hk3 (.bool b2) (.slice A2 n2 c2)
 obtain⟨r0,r1',r2⟩:=(sn3 hk3 (.bool b2) (.slice A2 n2 c2) (.slice (some ⟨w2.heap.size,0,none⟩) 1 1)).c3
 have HG:=lh9 (gr3 hq hk3 (zac hB2 s1) (Nat.le_refl _))
 clear hz hb hB2 hk2 s1 s2 h1 hz2 hq hk3 HB HK HH
 go_wp2
 refine bodyPost_ret (v:=.agg #[.bool b2,.slice A2 n2 c2,.slice (some ⟨w2.heap.size,0,none⟩) 1 1]) (by simp [results,Tryz.results54,go_sem,r0,r1',r2]) rfl ?_
 exact HG.out
theorem zlZ (m:Nat)(r:Rat)(hr:((-(m:Int):Int):Rat)=r)(w:World)(h0:0<m)(hm:m<=9223372036854775808):
  Calls Tryz.prog 54 #[.int .i64 (-(m:Int))] w (zdP w r):=by
 have hd0:decide (-(m:Int)<0)=true:=decide_eq_true (by omega)
 obtain⟨v,hv⟩:∃v,IntKind.u64.wrap (-(m:Int))=v:=⟨_,rfl⟩
 have hw2:IntKind.u64.wrap (-v)=(m:Int):=by rw [<-hv,IntKind.wrap_u64,IntKind.wrap_u64];omega
 have HZ:Hid (Sz 1 m):=by show m<18446744073709551616^1;rw [Nat.pow_one];omega
 have HM:Hid (m<18446744073709551616):=by show _<_;omega
 have HR:=lh9 hr
 obtain⟨y1,y2,y3,-⟩:=zbe w 94 121 #[.bool false,.slice none 0 0,.slice none 0 0] #[.int .u64 (m:Int)]
 have HB:=lh9 y1
 have HK:=lh9 y2
 have HL:=lh9 y3
 clear y1 y2 y3 hm hr
 go_enter Tryz.func54,Tryz.ntmps54
 go_wp2_with fail
 generalize (w.alloc (.cells #[.bool false,.slice none 0 0,.slice none 0 0] 94)).alloc (.cells #[.int .u64 (m:Int)] 121)=W1 at*
 (with_reducible refine(zov #[.int .u64 (m:Int)] [m] _ _ 1 m HL.out rfl zlB (zlc HM.out) (znY m) (by decide)).mono ?_)
 intro e w1 hg
 obtain⟨C1,r1,f1,rfl,hh,hb⟩:=hg.elim
 have HB:=lh9 (zac HB.out hb)
 have HK:=lh9 (zae hb HK.out)
 have HH:=lh9 hh
 clear hb hg hh HL
 go_wp2_with fail
 (with_reducible refine(zeh true m C1 r1 f1 _ HH.out (szh HZ HH.out)).mono ?_)
 rintro e w2 ⟨b2,A2,n2,c2,rfl,hz,hb⟩
 have hB2:=zac HB.out hb
 have hk2:=zae hb HK.out
 obtain⟨s1,s2,-⟩:=zaA w2 3 #[.int .i64 1]
 have h1:=zdG s2
 have hz2:zbQ (w2.alloc (.cells #[.int .i64 1] 3)) (-(m:Int)) b2 A2 n2 c2:=by
  have e:sgI true m=(-(m:Int)):=by unfold sgI;simp
  rw [<-e];exact hz.below s1
 have hq:=zmd hz2 h1
 rw [HR.out] at hq
 have hk3:=zae s1 hk2
 obtain⟨sc0,sf0,sc1,sf1,sc2,sf2⟩:=st3 hk3 (.bool b2) (.slice A2 n2 c2)
 obtain⟨r0,r1',r2⟩:=(sn3 hk3 (.bool b2) (.slice A2 n2 c2) (.slice (some ⟨w2.heap.size,0,none⟩) 1 1)).c3
 have HG:=lh9 (gr3 hq hk3 (zac hB2 s1) (Nat.le_refl _))
 clear hz hb hB2 hk2 s1 s2 h1 hz2 hq hk3 HB HK HH
 go_wp2
 refine bodyPost_ret (v:=.agg #[.bool b2,.slice A2 n2 c2,.slice (some ⟨w2.heap.size,0,none⟩) 1 1]) (by simp [results,Tryz.results54,go_sem,r0,r1',r2]) rfl ?_
 exact HG.out
theorem zfu {z:Int}{w:World}(hz:zbg z):Calls Tryz.prog 54 #[.int .i64 z] w (zdP w (z:Rat)):=by
 obtain⟨h1,h2⟩:=hz
 by_cases h0:0<=z
 ·obtain⟨m,rfl⟩:=Int.eq_ofNat_of_zero_le h0
  exact zlY m _ rfl w (by omega)
 ·obtain⟨m,hm⟩:∃m:Nat,z= -(m:Int):=⟨z.natAbs,by omega⟩
  subst hm
  exact zlZ m _ rfl w (by omega) (by omega)
theorem znZ (b:Bool)(A E:oA9)(n c k f:Nat)(W:World):Sem.run Tryz.prog (Instr.field 94 (.agg #[.bool b,.slice A n c,.slice E k f]) 0) W=.ok (.agg #[.bool b,.slice A n c]) W:=by
 unfold Instr.field
 simp [go_sem]
 rfl
theorem znB {p:Int}{w:World}(hp:zbg p):Calls Tryz.prog 80 #[.int .i64 p,.int .i64 0] w (zdP w (qOf p 0)):=by
 rw [zlS]
 obtain⟨bx1,bx2,-⟩:=zaA w 94 #[.bool false,.slice none 0 0,.slice none 0 0]
 have HB:=lh9 bx1
 have HK:=lh9 bx2
 have HP:=lh9 hp
 clear bx1 bx2 hp
 go_enter Tryz.func80,Tryz.ntmps80
 go_wp2_with fail
 (with_reducible refine(zfu HP.out).mono ?_)
 rintro e w2 ⟨b2,A2,n2,c2,E2,k2,f2,rfl,hq,hb⟩
 have hk3:=zae hb HK.out
 obtain⟨sc0,sf0,sc1,sf1,sc2,sf2⟩:=st3 hk3 (.bool b2) (.slice A2 n2 c2)
 obtain⟨r0,r1',r2⟩:=(sn3 hk3 (.bool b2) (.slice A2 n2 c2) (.slice E2 k2 f2)).c3
 have HG:=lh9 (gr3 hq hk3 (zac HB.out hb) (Nat.le_refl _))
 clear hb hq hk3 HB HK
 go_wp2
 refine bodyPost_ret (v:=.agg #[.bool b2,.slice A2 n2 c2,.slice E2 k2 f2]) (by simp [results,Tryz.results80,go_sem,r0,r1',r2]) rfl ?_
 exact HG.out
theorem znC {p q:Int}{w:World}(hp:zbg p)(hq:zbg q)(h0:q≠0):Calls Tryz.prog 80 #[.int .i64 p,.int .i64 q] w (zdP w (qOf p q)):=by
 rw [qOf_ne h0]
 have hd0:(q==0)=false:=by rw [beq_eq_false_iff_ne];exact h0
 have H0:=lh9 h0
 have HZP:=lh9 (zel hp.1 hp.2)
 have HZQ:=lh9 (zel hq.1 hq.2)
 obtain⟨bx1,bx2,-⟩:=zaA w 94 #[.bool false,.slice none 0 0,.slice none 0 0]
 have HB:=lh9 bx1
 have HK:=lh9 bx2
 have HP:=lh9 hp
 have HQ:=lh9 hq
 clear bx1 bx2 hp hq h0
 go_enter Tryz.func80,Tryz.ntmps80
 go_wp2_with fail
 (with_reducible refine(zfu HP.out).mono ?_)
 rintro e w2 ⟨b2,A2,n2,c2,E2,k2,f2,rfl,hx,hb⟩
 have HX:Hid (zbQ w2 p b2 A2 n2 c2):=by have h:=hx.1;rw [Rat.num_intCast] at h;exact h
 have HB:=lh9 (zac HB.out hb)
 have HK:=lh9 (zae hb HK.out)
 clear hb hx
 have hf1:=λW=>znZ b2 A2 E2 n2 c2 k2 f2 W
 go_wp2_with fail
 clear hf1
 (with_reducible refine(zfu HQ.out).mono ?_)
 rintro e w3 ⟨b3,A3,n3,c3,E3,k3,f3,rfl,hy,hb⟩
 have HY:Hid (zbQ w3 q b3 A3 n3 c3):=by have h:=hy.1;rw [Rat.num_intCast] at h;exact h
 have HX:=lh9 (HX.out.below hb)
 have HB:=lh9 (zac HB.out hb)
 have HK:=lh9 (zae hb HK.out)
 clear hb hy
 have hf2:=λW=>znZ b3 A3 E3 n3 c3 k3 f3 W
 go_wp2_with fail
 clear hf2
 (with_reducible refine(ref8_new p q b2 A2 n2 c2 b3 A3 n3 c3 1 1 _ HZP.out HX.out HZQ.out HY.out (by decide) (by decide) H0.out).mono ?_)
 rintro e w4 ⟨b4,A4,n4,c4,E4,k4,f4,rfl,hq,hb⟩
 have hk3:=zae hb HK.out
 obtain⟨sc0,sf0,sc1,sf1,sc2,sf2⟩:=st3 hk3 (.bool b4) (.slice A4 n4 c4)
 obtain⟨r0,r1',r2⟩:=(sn3 hk3 (.bool b4) (.slice A4 n4 c4) (.slice E4 k4 f4)).c3
 have HG:=lh9 (gr3 hq hk3 (zac HB.out hb) (Nat.le_refl _))
 clear hb hq hk3 HB HK HX HY
 go_wp2
 refine bodyPost_ret (v:=.agg #[.bool b4,.slice A4 n4 c4,.slice E4 k4 f4]) (by simp [results,Tryz.results80,go_sem,r0,r1',r2]) rfl ?_
 exact HG.out
theorem ref10_of {p q:Int}{w:World}(hp:zbg p)(hq:zbg q):Calls Tryz.prog 80 #[.int .i64 p,.int .i64 q] w (zdP w (qOf p q)):=by
 by_cases h0:q=0
 ·subst h0;exact znB hp
 ·exact znC hp hq h0
