/- What this claim leans on. -/
import Derived.Test.YtghpdeciaaagnaaGreatDoorIEDen
import Derived.Test.YtghpdeciaaagnaaGreatDoorIEClear
namespace Go.Proofs.YtghpdeciaaagnaaGreatDoor
open Go Go.RowKit
set_option maxHeartbeats 16000000
set_option maxRecDepth 100000
set_option linter.unusedVariables false
set_option linter.unusedSimpArgs false
theorem zmX {p:Int}{w:World}(hT:zai w)(hp:zcG p):
  Calls Tryz.prog 89 #[.agg #[.int .i64 p,.int .i64 0]] w (zaH w (qOf p 0)):=by
 rw [qOf_zero]
 obtain⟨hp1,hp2⟩:=hp
 have HT:=lh9 (λw' (hb:Below w.heap.size w w')=>hT.on hb)
 obtain⟨bx1,bx2,bx3,bz⟩:=zbI w 127 41 #[.int .i64 p,.int .i64 0] #[.bool false,.slice none 0 0,.slice none 0 0]
 obtain⟨g0,g1⟩:=bx2.c2
 have HB:=lh9 bx1
 have HK:=lh9 bx3
 clear hT bx1 bx2 bx3 bz
 go_enter Tryz.func89,Tryz.ntmps89
 go_wp2_with fail
 clear g0 g1
 (with_reducible refine(zcR p _ (HT.out _ HB.out) hp1 hp2).mono ?_)
 rintro e w2 ⟨b2,A2,n2,c2,E2,k2,f2,rfl,hw2,hb⟩
 have hk2:=zaa hb HK.out
 obtain⟨sc0,sf0,sc1,sf1,sc2,sf2⟩:=st3 hk2 (.bool b2) (.slice A2 n2 c2)
 obtain⟨r0,r1,r2⟩:=(sn3 hk2 (.bool b2) (.slice A2 n2 c2) (.slice E2 k2 f2)).c3
 have HG:=lh9 (gq3 hw2 hk2 (zab HB.out hb) (by omega))
 clear hb hk2 hw2 HB HK
 go_wp2
 refine bodyPost_ret (v:=.agg #[.bool b2,.slice A2 n2 c2,.slice E2 k2 f2]) (by simp [results,Tryz.results89,go_sem,r0,r1,r2]) rfl ?_
 exact HG.out
theorem zmY {p q:Int}{w:World}(hT:zai w)(hp:zcG p)(hq:zcG q)(h0:q≠0):
  Calls Tryz.prog 89 #[.agg #[.int .i64 p,.int .i64 q]] w (zaH w (qOf p q)):=by
 rw [qOf_ne h0]
 obtain⟨hp1,hp2⟩:=hp
 obtain⟨hq1,hq2⟩:=hq
 have H0:=lh9 h0
 have hd0:(q==0)=false:=by rw [beq_eq_false_iff_ne];exact h0
 have HT:=lh9 (λw' (hb:Below w.heap.size w w')=>hT.on hb)
 obtain⟨bx1,bx2,bx3,bz⟩:=zbI w 127 41 #[.int .i64 p,.int .i64 q] #[.bool false,.slice none 0 0,.slice none 0 0]
 obtain⟨g0,g1⟩:=bx2.c2
 have HB:=lh9 bx1
 have HK:=lh9 bx3
 clear hT bx1 bx2 bx3 bz h0
 go_enter Tryz.func89,Tryz.ntmps89
 go_wp2_with fail
 clear g0 g1
 (with_reducible refine(rat_of p q _ (HT.out _ HB.out) hp1 hp2 hq1 hq2 H0.out).mono ?_)
 rintro e w2 ⟨b2,A2,n2,c2,E2,k2,f2,rfl,hw2,hb⟩
 obtain⟨s1,s2,s3⟩:=zav w2 41 #[.bool b2,.slice A2 n2 c2,.slice E2 k2 f2]
 obtain⟨p0,p1,p2⟩:=s2.c3
 have hk2:=zaa s1 (zaa hb HK.out)
 have hw3:=hw2.below s1
 obtain⟨sc0,sf0,sc1,sf1,sc2,sf2⟩:=st3 hk2 (.bool b2) (.slice A2 n2 c2)
 obtain⟨r0,r1,r2⟩:=(sn3 hk2 (.bool b2) (.slice A2 n2 c2) (.slice E2 k2 f2)).c3
 have HG:=lh9 (gq3 hw3 hk2 (zab (zab HB.out hb) s1) (by omega))
 clear hb hk2 hw2 hw3 HB HK s1 s2 s3
 go_wp2
 refine bodyPost_ret (v:=.agg #[.bool b2,.slice A2 n2 c2,.slice E2 k2 f2]) (by simp [results,Tryz.results89,go_sem,r0,r1,r2]) rfl ?_
 exact HG.out
theorem zqx {p q:Int}{w:World}(hT:zai w)(hp:zcG p)(hq:zcG q):
  Calls Tryz.prog 89 #[.agg #[.int .i64 p,.int .i64 q]] w (zaH w (qOf p q)):=by
 by_cases h0:q=0
 ·subst h0;exact zmX hT hp
 ·exact zmY hT hp hq h0
def zgt (L:List (Int×Int)):List Rat:=L.map λq=>qOf q.1 q.2
theorem zhs (L:List (Int×Int)):(zgt L).length=L.length:=List.length_map _
def GivesM (w:World)(n:Nat)(xs:List Rat)(e:Ending)(w':World):Prop:=∃(A:oA9) (c:Nat),e=.returned (.slice A n c)/\zaz w' A n c xs/\(∀ad,A=some ad->w.heap.size<=ad.block)/\Below w.heap.size w w'
theorem zot {A:oA9}{n c:Nat}{L:List (Int×Int)}{w:World}(hT:zai w)(h:zbq w A n c L):
  Calls Tryz.prog 29 #[.slice A n c] w (GivesM w n (zgt L)):=by
 obtain⟨i1',hi1,hz10,hz11,hz12⟩:=info_parts zop
 have hn0:n<=1048576:=Nat.le_trans h.fits h.small
 have HL:=lh9 h.len
 have HG:Hid (∀k,k<n->zcG (L.getD k (0,0)).1/\zcG (L.getD k (0,0)).2/\∃ad,A=some ad/\ad.block<w.heap.size/\w.cell? (ad.add (k*2))=some (.int .i64 (L.getD k (0,0)).1)/\w.cell? (ad.add (k*2+1))=some (.int .i64 (L.getD k (0,0)).2)):=λk hk=>by
  have hl:=h.len
  have e:L[k]?=some (L.getD k (0,0)):=by rw [List.getD_eq_getElem?_getD,List.getElem?_eq_getElem (by omega)];rfl
  obtain⟨h1,h2⟩:=h.ints _ (List.mem_of_getElem? e)
  exact⟨h1,h2,h.row k _ e⟩
 have HS:Hid (∀k,k<n->zgt (L.take (k+1))=zgt (L.take k)++[qOf (L.getD k (0,0)).1 (L.getD k (0,0)).2]):=λk hk=>by
  have hl:=h.len
  unfold zgt
  rw [List.take_succ_eq_append_getElem (by omega),List.map_append,List.getD_eq_getElem?_getD,List.getElem?_eq_getElem (by omega)]
  rfl
 have HT:=lh9 (λw' (hb:Below w.heap.size w w')=>hT.on hb)
 unfold GivesM
 clear h hT
 have hB:=Below.refl w.heap.size w
 go_enter Tryz.func29,Tryz.ntmps29
 go_wp2_with fail
 go_loopg [3,4] (n+1) (λg sl ix wr=>∃(k:Nat) (v:Value) (vs:List Value),k<=n/\n<g+k/\ix=.int .i64 k/\v=sl/\zgp zah wr w.heap.size 41 v (zgt (L.take k)) vs/\Below w.heap.size w wr)
 case atStart=>exact⟨0,_,_,Nat.zero_le _,by omega,rfl,rfl,zgp.nil _ _ _,hB⟩
 case round=>
  clear hB
  obtain⟨k,v,vs,hkn,hg,rfl,rfl,hon,hB⟩:=hrel
  by_cases hlt:k<n
  ·obtain⟨hi1',hi2',ad,rfl,hadb,hc0,hc1⟩:=HG.out k hlt
   have HSK:=lh9 (HS.out k hlt)
   obtain⟨q,hq⟩:∃q,L.getD k (0,0)=q:=⟨_,rfl⟩
   rw [hq] at hi1' hi2' hc0 hc1 HSK
   obtain⟨q1,q2⟩:=q
   dsimp only at hi1' hi2' hc0 hc1 HSK
   have hc0:=zac hB hc0
   have hc1:=ziF (zac hB hc1)
   have hd1:decide ((k:Int)<(n:Int))=true:=decide_eq_true (by omega)
   have i1:(0:Int)<=(k:Int):=by omega
   have i2:(k:Int)<(n:Int):=by omega
   have HON0:=lh9 hon
   have HB0:=lh9 hB
   have HI1:=lh9 hi1'
   have HI2:=lh9 hi2'
   have hlq:(zgt (L.take k)).length=k:=by rw [zhs,List.length_take,HL.out];omega
   have HLQ:=lh9 hlq
   clear hon hB hi1' hi2' hq hlq
   go_wp2_with fail
   (with_reducible refine(zqx (HT.out _ HB0.out) HI1.out HI2.out).mono ?_)
   rintro e w5 ⟨b5,B5,m5,d5,E5,u5,f5,rfl,hx5,hb⟩
   obtain⟨t1,t2,_⟩:=zav w5 41 #[.bool b5,.slice B5 m5 d5,.slice E5 u5 f5]
   obtain⟨t20,t21,t22⟩:=t2.c3
   have hup:=zab hb t1
   have hon:=zgp.below zaf HON0.out hup
   have HX:=lh9 (hx5.below t1)
   have HB:=lh9 (zab HB0.out hup)
   have hcell:∀j u,[Value.bool b5,.slice B5 m5 d5,.slice E5 u5 f5][j]?=some u->(w5.alloc (.cells #[.bool b5,.slice B5 m5 d5,.slice E5 u5 f5] 41)).cell? ((⟨w5.heap.size,0,none⟩:Addr).add j)=some u:=λj u hu=>by
    rw [zaP]
    match j,hu with
    |0,hu=>simp at hu;subst hu;exact t2.cell 0
    |1,hu=>simp at hu;subst hu;exact t2.cell 1
    |2,hu=>simp at hu;subst hu;exact t2.cell 2
   have HCELL:=lh9 hcell
   have HONE:Hid (∀u ∈ [Value.bool b5,.slice B5 m5 d5,.slice E5 u5 f5],u.oneCell'=true):=by intro u hu;simp at hu;rcases hu with rfl|rfl|rfl<;>rfl
   have HNN:Hid (∀u ∈ [Value.bool b5,.slice B5 m5 d5,.slice E5 u5 f5],NoIV u):=by intro u hu y z;simp at hu;rcases hu with rfl|rfl|rfl<;>(intro h9;cases h9)
   have HZN:Hid (∀u ∈(Value.agg #[.bool false,.slice none 0 0,.slice none 0 0]).cells.toList,NoIV u):=by intro u hu y z;simp [Value.cells] at hu;rcases hu with rfl|rfl<;>(intro h9;cases h9)
   have HBS:Hid (w.heap.size<=(w5.alloc (.cells #[.bool b5,.slice B5 m5 d5,.slice E5 u5 f5] 41)).heap.size):=HB.out.size
   have hown:=hon.own
   rw [HLQ.out] at hown
   have HOWN:=lh9 hown
   have HNOU:=lh9 hon.nou
   have HON:=lh9 hon
   have HOB:=lh9 (λr (h:v.ownBlock=some r)=>hon.own.lt r h)
   clear hb hup hx5 hcell hon t1 t2 hc0 hc1 t20 t21 t22 hown
   go_wp2_with (at_builtin;go_loud (refine zhG _ rfl (.tmp 11) (.tmp 17) 61 rfl w.heap.size 41 i1' (.agg #[.bool false,.slice none 0 0,.slice none 0 0]) 3 56 Tryz.underlying61 hi1 hz10 hz11 hz12 rfl (by decide) v k vs rfl HOWN.out ⟨w5.heap.size,0,none⟩ 1 1 [.bool b5,.slice B5 m5 d5,.slice E5 u5 f5] rfl rfl HCELL.out HONE.out (by unfold maxLen;omega) (by omega) HBS.out HNOU.out HZN.out HNN.out ?_;intro v' w8 hown' hgrow hat hnou';have HON8:=lh9 (zgp.grow (n:=k+1) zaf HON.out HX.out hown' (by rw [HLQ.out]) hgrow hnou');have HB8:=lh9 (HB.out.grown hgrow HBS.out (λr hr=>(HOB.out r hr).1));clear hown' hgrow hat hnou'))
   rw [<-HSK.out] at HON8
   go_roundg (n - k)
   case measure=>omega
   case rel=>exact⟨k+1,_,_,by omega,by omega,by go_num,rfl,HON8.out,HB8.out⟩
  ·have hd1:decide ((k:Int)<(n:Int))=false:=decide_eq_false (by omega)
   have hk:k=n:=by omega
   subst hk
   rw [List.take_of_length_le (by rw [HL.out];exact Nat.le_refl _)] at hon
   have hlq:(zgt L).length=k:=by rw [zhs];exact HL.out
   obtain⟨A1,c1,rfl,hv,hf⟩:=hon.shape
   rw [hlq] at hv⊢
   have HV:=lh9 hv
   have HF:=lh9 hf
   have HB1:=lh9 hB
   clear hon hv hB hlq hf
   go_wp2
   go_ret
   exact⟨A1,c1,rfl,HV.out,HF.out,HB1.out⟩
theorem zaB.drop_ {α:Type}{R:RP α}{w:World}{A:oA9}{n r:Nat}{Ls:List (List α)}(h:zaB R w A n Ls)(hr:r<=n):zaB R w (Option.map (λx=>x.add r) A) (n - r) (Ls.drop r):=by
 refine⟨by rw [List.length_drop,h.len],λi L hi=>?_⟩
 rw [List.getElem?_drop] at hi
 obtain⟨ad,B,d,rfl,h1,h2,h3⟩:=h.num _ L hi
 exact⟨_,B,d,rfl,by rw [zap];exact h1,by rw [zdU];exact h2,h3⟩
def zcI (r c:Nat)(p:Rat)(S:List (List Rat))(i:Nat):List (List Rat):=S.mapIdx λj row=>if j=r\/i<=j then row else zdl p row (S.getD r []) c
theorem zdn (r c:Nat)(p:Rat)(S:List (List Rat))(i:Nat):(zcI r c p S i).length=S.length:=by unfold zcI;rw [List.length_mapIdx]
theorem zdm {r c i j:Nat}{p:Rat}{S:List (List Rat)}(hj:j<S.length):(zcI r c p S i)[j]?=some (if j=r\/i<=j then S.getD j [] else zdl p (S.getD j []) (S.getD r []) c):=by
 unfold zcI
 rw [List.getElem?_mapIdx,List.getElem?_eq_getElem hj]
 show some (if j=r\/i<=j then _ else _)=_
 rw [show S.getD j []=S[j] by rw [List.getD_eq_getElem?_getD,List.getElem?_eq_getElem hj];rfl]
theorem zkD {r c i j:Nat}{p:Rat}{S:List (List Rat)}(hj:j<S.length):(zcI r c p S i).getD j []=if j=r\/i<=j then S.getD j [] else zdl p (S.getD j []) (S.getD r []) c:=by
 rw [List.getD_eq_getElem?_getD,zdm hj];rfl
theorem znY (r c:Nat)(p:Rat)(S:List (List Rat)):zcI r c p S 0=S:=by
 apply List.ext_getElem?
 intro j
 rcases Nat.lt_or_ge j S.length with h|h
 ·rw [zdm h,if_pos (Or.inr (Nat.zero_le _)),zbE h]
 ·rw [List.getElem?_eq_none (by rw [zdn];exact h),List.getElem?_eq_none h]
theorem znW {r c:Nat}{p:Rat}{S:List (List Rat)}:zcI r c p S (r+1)=zcI r c p S r:=by
 apply List.ext_getElem?
 intro j
 rcases Nat.lt_or_ge j S.length with h|h
 ·rw [zdm h,zdm h]
  by_cases e:j=r
  ·rw [if_pos (Or.inl e),if_pos (Or.inl e)]
  ·by_cases e2:r<=j
   ·rw [if_pos (Or.inr (by omega)),if_pos (Or.inr e2)]
   ·rw [if_neg (by omega),if_neg (by omega)]
 ·rw [List.getElem?_eq_none (by rw [zdn];exact h),List.getElem?_eq_none (by rw [zdn];exact h)]
theorem znX {r c i:Nat}{p:Rat}{S:List (List Rat)}(hi:i<S.length)(hne:i≠r):(zcI r c p S i).set i (zdl p (S.getD i []) (S.getD r []) c)=zcI r c p S (i+1):=by
 apply List.ext_getElem?
 intro j
 rcases Nat.lt_or_ge j S.length with h|h
 ·rw [zdm h]
  by_cases e:i=j
  ·subst e
   rw [List.getElem?_set_self (by rw [zdn];exact h),if_neg (by omega)]
  ·rw [List.getElem?_set_ne e,zdm h]
   by_cases e1:j=r
   ·rw [if_pos (Or.inl e1),if_pos (Or.inl e1)]
   ·by_cases e2:i<=j
    ·rw [if_pos (Or.inr e2),if_pos (Or.inr (by omega))]
    ·rw [if_neg (by omega),if_neg (by omega)]
 ·rw [List.getElem?_eq_none (by rw [List.length_set,zdn];exact h),List.getElem?_eq_none (by rw [zdn];exact h)]
theorem zqc {r c n:Nat}{p:Rat}{S:List (List Rat)}(hn:S.length=n):zcI r c p S n=zhL r c p S:=by
 subst hn
 apply List.ext_getElem?
 intro j
 rcases Nat.lt_or_ge j S.length with h|h
 ·rw [zdm h]
  unfold zhL
  rw [List.getElem?_mapIdx,List.getElem?_eq_getElem h]
  show _=some (if j=r then _ else _)
  rw [show S.getD j []=S[j] by rw [List.getD_eq_getElem?_getD,List.getElem?_eq_getElem h];rfl]
  by_cases e:j=r
  ·rw [if_pos (Or.inl e),if_pos e]
  ·rw [if_neg (by omega),if_neg e]
 ·rw [List.getElem?_eq_none (by rw [zdn];exact h),List.getElem?_eq_none (by unfold zhL;rw [List.length_mapIdx];exact h)]
theorem zkN {c:Nat}{st:ESt}:ziy c (st.S.drop st.ld.length)=if zbn c st<st.S.length - st.ld.length then((zbn c st:Nat):Int) else -1:=by
 unfold ziy zbn
 rw [List.length_drop]
theorem next_no {c:Nat}{st:ESt}(h:¬zbn c st<st.S.length - st.ld.length):zfJ c st=st:=by unfold zfJ;rw [if_neg h]
theorem next_yes {c:Nat}{st:ESt}(h:zbn c st<st.S.length - st.ld.length):zfJ c st=⟨zhL st.ld.length c st.p (zfL c st),st.ld++[c],atM (zfL c st) st.ld.length c⟩:=by unfold zfJ;rw [if_pos h]
theorem EOk.msz {n m c K:Nat}{a0:Nat->Nat->Rat}{S:List (List Rat)}{ld:List Nat}{p:Rat}(hd:zaN S n m)(hi:∃a,ziv n a0 a/\zcK n m c a (atM S) ld p)(hn:n<=64)(h0:∀i,i<n->∀j,j<m->LI K (a0 i j)):zax (67+65*K) S:=λL hL x hx=>by
 obtain⟨a,hs,hi⟩:=hi
 obtain⟨i,hi',rfl⟩:=List.mem_iff_getElem.1 hL
 obtain⟨j,hj',rfl⟩:=List.mem_iff_getElem.1 hx
 have h1:=hd.rows
 have h2:=hd.cols _ hL
 have:=(hi.sz hn (hs.li h0) (i:=i) (j:=j) (by omega) (by omega)).szq (by omega)
 have e:atM S i j=S[i][j]:=by
  unfold atM
  rw [List.getD_eq_getElem?_getD (l:=S),List.getElem?_eq_getElem hi']
  show S[i].getD j 0=_
  rw [List.getD_eq_getElem?_getD,List.getElem?_eq_getElem hj'];rfl
 rw [e] at this
 exact this
theorem EOk.psz {n m c K:Nat}{a0:Nat->Nat->Rat}{S:List (List Rat)}{ld:List Nat}{p:Rat}(hi:∃a,ziv n a0 a/\zcK n m c a (atM S) ld p)(hn:n<=64)(h0:∀i,i<n->∀j,j<m->LI K (a0 i j)):SzQ (67+65*K) p/\p≠0:=by
 obtain⟨a,hs,hi⟩:=hi
 exact⟨(hi.lead_sz' hn (hs.li h0)).szq (by omega),hi.ne⟩
section
variable {P:Program}{ops:Array Oper}{Q:Exit->Act->World->Prop}{S:World->Prop}{fuel:Nat}{l:Array Bool}{a:Act}{w:World}
theorem rc3 (i j k:Nat){o p q:Oper}(hk:∀K':Act->World->Prop,Shut (∀(a:Act) (w:World),S w->(S w->wpAnyH P .any ops (NoPanic Q) S fuel (l.setIfInBounds i true) a w)->K' a w)->Oper.wp P o a w K' (NoPanic Q))(hj:∀K':Act->World->Prop,Shut (∀(a:Act) (w:World),S w->(S w->wpAnyH P .any ops (NoPanic Q) S fuel (l.setIfInBounds j true) a w)->K' a w)->Oper.wp P p a w K' (NoPanic Q))(hq:∀K':Act->World->Prop,Shut (∀(a:Act) (w:World),S w->(S w->wpAnyH P .any ops (NoPanic Q) S fuel (l.setIfInBounds k true) a w)->K' a w)->Oper.wp P q a w K' (NoPanic Q))(h1:ops[i]?=some o:=by simp only [List.getElem?_toArray,List.getElem?_cons_succ,List.getElem?_cons_zero];rfl)(h1':ops[j]?=some p:=by simp only [List.getElem?_toArray,List.getElem?_cons_succ,List.getElem?_cons_zero];rfl)(h1'':ops[k]?=some q:=by simp only [List.getElem?_toArray,List.getElem?_cons_succ,List.getElem?_cons_zero];rfl)(h2:Region.ready .any ops l=[i,j,k]:=by kernel_rfl)(h3:Region.wanted o (yielded ops a.tmps)=true:=by rfl)(h3':Region.wanted p (yielded ops a.tmps)=true:=by rfl)(h3'':Region.wanted q (yielded ops a.tmps)=true:=by rfl):wpAnyH P .any ops (NoPanic Q) S (fuel+1) l a w:=
 wpAnyH_ready h2 (by simp) (AllReadyH.cons h1 (λK' hK=>by rw [if_pos h3];exact hk K' hK) (AllReadyH.cons h1' (λK' hK=>by rw [if_pos h3'];exact hj K' hK) (AllReadyH.cons h1'' (λK' hK=>by rw [if_pos h3''];exact hq K' hK) AllReadyH.nil)))
end
