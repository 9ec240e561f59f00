/- What this claim leans on. -/
import Derived.Test.YtlgnacmgepnamaaGreatDoorKBunR
import Derived.Test.YtlgnacmgepnamaaGreatDoorKBunY
namespace Go.Proofs.YtlgnacmgepnamaaGreatDoor
open Go Go.RowKit
set_option maxHeartbeats 16000000
set_option linter.unusedVariables false
def zcV (g:Nat)(w w':World):Prop:=w'.heap.size=w.heap.size/\∀p:Addr,p.block≠g->w'.cell? p=w.cell? p
theorem zcV.refl (g:Nat)(w:World):zcV g w w:=⟨rfl,λ_ _=>rfl⟩
theorem zcV.set_ {g:Nat}{w w':World}(h:zcV g w w')(j:Nat)(v:Value):zcV g w (w'.setCell ⟨g,j,none⟩ v):=
 ⟨by rw [<-h.1];simp,λp hp=>(World.cell?_setCell_other w' ⟨g,j,none⟩ p v (λe=>hp (by first|rw [e]|rw [<-e]))).trans (h.2 p hp)⟩
theorem zbF (w:World)(g:Nat)(v0:Value):zcV g w (w.setCell ⟨g,0,none⟩ v0):=(zcV.refl g w).set_ 0 v0
theorem zez (w:World)(g:Nat)(v0 v1:Value):zcV g w ((w.setCell ⟨g,0,none⟩ v0).setCell ⟨g,1,none⟩ v1):=(zbF w g v0).set_ 1 v1
theorem off3 (w:World)(g:Nat)(v0 v1 v2:Value):zcV g w (((w.setCell ⟨g,0,none⟩ v0).setCell ⟨g,1,none⟩ v1).setCell ⟨g,2,none⟩ v2):=(zez w g v0 v1).set_ 2 v2
def NoU (cs:Array Value):Prop:=∀v ∈ cs.toList,∀k z,v≠.int k z
theorem NoU.s1 (q:oA9)(r s:Nat):NoU #[.slice q r s]:=by intro v hv k z e;simp at hv;subst hv;cases e
theorem NoU.s2 (p:Bool)(q:oA9)(r s:Nat):NoU #[.bool p,.slice q r s]:=by intro v hv k z e;simp at hv;rcases hv with rfl|rfl<;>cases e
theorem NoU.s3 (p:Bool)(q:oA9)(r s:Nat)(q2:oA9)(r2 s2:Nat):NoU #[.bool p,.slice q r s,.slice q2 r2 s2]:=by intro v hv k z e;simp at hv;rcases hv with rfl|rfl|rfl<;>cases e
theorem zbY:NoU #[.slice none 0 0]:=NoU.s1 _ _ _
theorem nou2:NoU #[.bool false,.slice none 0 0]:=NoU.s2 _ _ _ _
theorem zjF {w:World}{A:oA9}{n g:Nat}{k:IntKind}{l:List Nat}{t:TypeId}{cs:Array Value}(h:zas w w.heap.size 1 A n (zat k l))(hk:Blk w g t cs)(hcs:NoU cs):0<n->∀ad,A=some ad->ad.block≠g:=λhn ad e hg=>by
 have hl:=h.len_
 obtain⟨ad',e',_,hc⟩:=h.2 hn
 rw [e] at e'
 injection e' with e'
 subst e'
 have h0:=hc 0 (.int k (l.getD 0 0:Nat)) (zcl k _ 0 (by omega))
 have e0:ad.add 0=ad:=by unfold Addr.add;rw [if_pos rfl]
 rw [e0] at h0
 obtain⟨bk,off,pr⟩:=ad
 simp only at hg
 subst hg
 unfold Blk at hk
 cases pr with
 |none=>
   rw [show w.cell? ⟨bk,off,none⟩=cs[off]? from cell_of_row w bk off _ t (0,0) hk,<-Array.getElem?_toList] at h0
   exact hcs _ (List.mem_of_getElem? h0) _ _ rfl
 |some q=>simp [World.cell?,hk] at h0
theorem zjG {w w':World}{A:oA9}{n g:Nat}{k:IntKind}{l:List Nat}{t:TypeId}{cs:Array Value}(h:zas w w.heap.size 1 A n (zat k l))(hk:Blk w g t cs)(hcs:NoU cs)(ho:zcV g w w'):zas w' w'.heap.size 1 A n (zat k l):=by
 have hne:=zjF h hk hcs
 refine⟨h.1,λhn=>?_⟩
 obtain⟨ad,e,hb,hc⟩:=h.2 hn
 refine⟨ad,e,by rw [ho.1];exact hb,λj v hv=>?_⟩
 rw [ho.2 (ad.add j) (by rw [zao];exact hne hn ad e)]
 exact hc j v hv
theorem zav {w w':World}{x:Nat}{A:oA9}{n c g:Nat}{t:TypeId}{cs:Array Value}(h:zaf w x A n c)(hk:Blk w g t cs)(hcs:NoU cs)(ho:zcV g w w'):zaf w' x A n c:=⟨zjG h.1 hk hcs ho,h.2⟩
theorem zgq {w w':World}{z:Int}{b:Bool}{A:oA9}{n c g:Nat}{t:TypeId}{cs:Array Value}(h:zaC w z b A n c)(hk:Blk w g t cs)(hcs:NoU cs)(ho:zcV g w w'):zaC w' z b A n c:=⟨h.1,zav h.2 hk hcs ho⟩
theorem zhV {w w':World}{r:Rat}{b:Bool}{A:oA9}{n c:Nat}{E:oA9}{k f:Nat}{g:Nat}{t:TypeId}{cs:Array Value}(h:zan w r b A n c E k f)(hk:Blk w g t cs)(hcs:NoU cs)(ho:zcV g w w'):zan w' r b A n c E k f:=by
 refine⟨zgq h.1 hk hcs ho,?_⟩
 obtain⟨x,e,hx⟩:=h.2
 exact⟨x,e,zav hx hk hcs ho⟩
def SzQ (K:Nat)(r:Rat):Prop:=LtQ (18446744073709551616^K) r
theorem SzQ.up {K K':Nat}{r:Rat}(h:SzQ K r)(hk:K<=K'):SzQ K' r:=LtQ.up h (Nat.pow_le_pow_right (by decide) hk)
theorem znn (K K':Nat):2*(18446744073709551616^K*18446744073709551616^K')<=18446744073709551616^(K+K'+1):=by
 rw [Nat.pow_succ,Nat.pow_add,Nat.mul_comm]
 exact Nat.mul_le_mul_left _ (by decide)
theorem SzQ.add {K K':Nat}{r s:Rat}(h:SzQ K r)(h':SzQ K' s):SzQ (K+K'+1) (r+s):=LtQ.up (LtQ.add h h') (znn K K')
theorem SzQ.mul {K K':Nat}{r s:Rat}(h:SzQ K r)(h':SzQ K' s):SzQ (K+K') (r*s):=LtQ.up (LtQ.mul h h') (by rw [Nat.pow_add];exact Nat.le_refl _)
theorem SzQ.neg {K:Nat}{r:Rat}(h:SzQ K r):SzQ K (-r):=LtQ.neg h
theorem SzQ.abs {K:Nat}{r:Rat}(h:SzQ K r):SzQ K r.abs:=by
 unfold Rat.abs
 split
 ·exact h
 ·exact h.neg
theorem SzQ.num {K:Nat}{r:Rat}(h:SzQ K r):Sz K r.num.natAbs:=h.1
theorem SzQ.den {K:Nat}{r:Rat}(h:SzQ K r):Sz K r.den:=h.2
theorem zcA {K:Nat}(h:0<K):1<18446744073709551616^K:=Nat.one_lt_pow (by omega) (by decide)
theorem SzQ.whole {K:Nat}{z:Int}(h:Sz K z.natAbs)(hK:0<K):SzQ K (z:Rat):=LtQ.whole h (zcA hK)
theorem SzQ.made {K:Nat}{p q:Int}(h:Sz K p.natAbs)(h':Sz K q.natAbs)(hK:0<K):SzQ K (Rat.divInt p q):=LtQ.made h h' (zcA hK)
theorem SzQ.zero:SzQ 1 (0:Rat):=⟨by decide,by decide⟩
theorem SzQ.fit {K:Nat}{r:Rat}(h:SzQ K r){w:World}{b:Bool}{A:oA9}{n c:Nat}{E:oA9}{k f:Nat}(hr:zan w r b A n c E k f)(hK:K<=67108864):zaQ n k:=by
 refine⟨Nat.le_trans (h.num.words hr.1.2) (Nat.le_trans hK (by decide)),?_⟩
 obtain⟨x,⟨e,_⟩,hx⟩:=hr.2
 have hd:Sz K x:=h.den.of_le (by rw [e];split<;>omega)
 exact Nat.le_trans (hd.words hx) (Nat.le_trans hK (by decide))
set_option maxRecDepth 100000
theorem zpB (x mm:Nat)(A:oA9)(n c:Nat)(w:World)(hA:zak w x A n c)(hn:n<=274877906944)(hm0:0<mm)(hm1:mm<=32768):
  Calls Tryz.prog 174 #[.slice A n c,.int .i64 mm] w (zjb w x mm):=by
 obtain⟨i0,hi0,hz0,hz1,hz2⟩:=info_parts zid
 have HLN:=lh9 hA.len
 have hR:=hA.1
 clear hA
 obtain⟨Z,hZ⟩:∃Z,madeCells (Value.cells (.int .i64 0)) (n*i0.size)=Z:=⟨_,rfl⟩
 have HZ:Hid (Z.size=n):=by show _=_;rw [<-hZ,size_madeCells,hz1,Nat.mul_one]
 have hmk:∀W:World,(Instr.makeSlice 63 (.int .i64 (n:Int)) (.int .i64 (n:Int))).run Tryz.prog W=.ok (.slice (some ⟨W.heap.size,0,none⟩) n n) (W.alloc (.cells Z 3)):=λW=>by
  rw [<-hZ];exact zaP _ _ i0 _ Tryz.underlying63 hi0 hz0 _ _ n n (Nat.le_refl _) (by rw [hz2];omega) (by omega) W
 clear hZ
 go_enter Tryz.func174,Tryz.ntmps174
 go_wp2
 clear hmk
 go_loopg [7,8,9] (n + 1) (fun g s i _ wr => ∃ (k left : Nat) (cs : Array Value) (out : List Nat),k ≤ n ∧ k < g ∧ i = .int .i64 ((k : Int) - 1) ∧ s = .int .i64 left ∧ zeq x mm n k out left ∧
   Blk wr w.heap.size 3 cs/\cs.size=n/\cs.toList.drop k=zat .i64 out/\Below w.heap.size w wr)
 case atStart=>exact⟨n,0,Z,[],Nat.le_refl _,by omega,rfl,rfl,zeq.start hm0 (by have:=HLN.out;omega),Blk.new w _ _,HZ.out,by rw [List.drop_of_length_le (by have:=HZ.out;simp;omega)];rfl,(Below.refl _ _).alloc (Nat.le_refl _) _⟩
 case round=>
  obtain⟨k,left,cs,out,hk,hg,rfl,rfl,hat,hB,hsz,hdr,hbl⟩:=hrel
  by_cases hk0:k=0
  ·subst hk0
   obtain⟨f1,f2⟩:=hat.done
   have hlen:out.length=n:=by have:=hat.len;omega
   have hrd:zas wr wr.heap.size 1 (some ⟨w.heap.size,0,none⟩) n (zat .i64 out):=by
    refine⟨by rw [zaz];omega,λ_=>⟨_,rfl,hB.lt,λj u hu=>?_⟩⟩
    have e:(⟨w.heap.size,0,none⟩:Addr).add j=⟨w.heap.size,j,none⟩:=by unfold Addr.add;split<;>simp_all
    rw [e,hB.cell j,<-Array.getElem?_toList]
    rw [List.drop_zero] at hdr
    rw [hdr];exact hu
   have T:=zgS (some ⟨w.heap.size,0,none⟩) n n out wr hrd hat.dgs (Nat.le_refl _) (by omega) (by omega)
   rw [f1] at T
   have HT:=lh9 T
   have F2:=lh9 f2
   clear T hrd f1 f2 hat hdr hsz hlen
   go_wp2_with fail
   refine HT.out.mono ?_
   intro e w2 hg2
   have hg3:=hg2.from_ hbl
   obtain⟨A2,n2,c2,rfl,hh2,hb2⟩:=hg2.elim
   have HG3:=lh9 hg3
   clear hg2 hh2 hb2 hg3
   go_wp2_with fail
   go_ret2
   exact⟨_,by rw [<-F2.out];rfl,HG3.out⟩
  ·obtain⟨j,rfl⟩:∃j,k=j+1:=⟨k - 1,by omega⟩
   obtain⟨ad,rfl,hadb,hc0⟩:=zbn hR (k:=j) (by omega)
   have hc1:wr.cell? (ad.add j)=some (.int .i64 ((dg 65536 x).getD j 0:Nat)):=(hbl.cell (by rw [zao];exact hadb)).trans hc0
   rw [zfB] at hc1
   have ha1:x / 65536^j%65536<65536:=Nat.mod_lt _ (by decide)
   have hst:=hat.step hk rfl
   have hleft:=hat.rest
   obtain⟨a,ha⟩:∃b,x / 65536^j%65536=b:=⟨_,rfl⟩
   rw [ha] at hc1 ha1 hst
   have hfr:=hB.frozen j
   have hcell:∃u,wr.cell? ⟨w.heap.size,j,none⟩=some u:=by
    rw [hB.cell j]
    exact⟨cs[j]'(by omega),Array.getElem?_eq_getElem (by omega)⟩
   obtain⟨u,hu⟩:=hcell
   have HST:=lh9 hst
   have HS:=lh9 hsz
   have HD:=lh9 hdr
   clear hst ha hat hc0 hsz hdr
   go_wp2
   go_roundg (j+1)
   case measure=>omega
   case rel=>exact⟨j,(left*65536+a)%mm,cs.setIfInBounds j (.int .i64 (((left:Int)*65536+(a:Int)) / (mm:Int))),_,by omega,by omega,by go_num,by go_num,HST.out,hB.set_ _ _,by simpa using HS.out,by rw [drop_set _ _ _ (by have:=HS.out;omega),HD.out];simp [zat],hbl.setCell (Nat.le_refl _) _⟩
set_option linter.unusedSimpArgs false
def BackD (b x y:Nat)(D:List Nat):Prop:=D++dg b y=dg b x
theorem BackD.step {b x y:Nat}{D:List Nat}(h:BackD b x y D)(hb:2<=b)(hy:y≠0):BackD b x (y / b) (D++[y%b]):=by
 unfold BackD at h⊢
 rw [<-h,zdR hb hy,List.append_assoc]
 rfl
theorem zjo (w:World):zak w 0 none 0 0:=⟨zas.none_,Nat.le_refl _,by omega⟩
def GivesH (w:World)(x:Nat)(e:Ending)(w':World):Prop:=∃(A:oA9) (n c:Nat),e=.returned (.slice A n c)/\zak w' x A n c/\Below w.heap.size w w'
theorem zoZ (w:World)(g:Nat)(h:Blk w g 3 #[.int .i64 1]):zak w 1 (some ⟨g,0,none⟩) 1 1:=by
 have e:dg 65536 1=[1]:=by
  rw [zdR (by decide) (by decide)]
  rfl
 refine⟨?_,Nat.le_refl _,by omega⟩
 rw [e]
 refine⟨rfl,λ_=>⟨_,rfl,h.lt,λj u hu=>?_⟩⟩
 match j,hu with
 |0,hu=>simp [zat] at hu;subst hu;exact h.cell 0
def zjc (w:World)(q r:Nat)(e:Ending)(w':World):Prop:=∃(A:oA9) (n c:Nat) (B:oA9) (m d:Nat),e=.returned (.tuple #[.slice A n c,.slice B m d])/\zak w' q A n c/\zak w' r B m d/\Below w.heap.size w w'
theorem div_no {m y b:Nat}(hb:b<2)(h:m%y*2+b<y):(m+m+b) / y=m / y*2+0/\(m+m+b)%y=m%y*2+b:=by
 have h1:=Nat.div_add_mod m y
 have e:m+m+b=y*(m / y*2)+(m%y*2+b):=by rw [Nat.mul_comm (m / y) 2,Nat.mul_left_comm];omega
 rw [e,Nat.mul_add_div (by omega),Nat.mul_add_mod,Nat.div_eq_of_lt h,Nat.mod_eq_of_lt h]
 exact⟨rfl,rfl⟩
theorem div_yes {m y b:Nat}(hy:y≠0)(hb:b<2)(h:y<=m%y*2+b):(m+m+b) / y=m / y*2+0+1/\(m+m+b)%y=m%y*2+b - y:=by
 have h1:=Nat.div_add_mod m y
 have h2:=Nat.mod_lt m (y:=y) (by omega)
 have h3:m%y*2+b - y<y:=by omega
 have e:m+m+b=y*(m / y*2+1)+(m%y*2+b - y):=by rw [Nat.mul_add,Nat.mul_comm (m / y) 2,Nat.mul_left_comm];omega
 rw [e,Nat.mul_add_div (by omega),Nat.mul_add_mod,Nat.div_eq_of_lt h3,Nat.mod_eq_of_lt h3]
 exact⟨rfl,rfl⟩
theorem zkY (x y:Nat):decide (0<=zbh x y)=decide (y<=x):=by
 rw [Bool.eq_iff_iff]
 simp only [decide_eq_true_eq]
 unfold zbh
 split
 ·omega
 ·split<;>omega
theorem zhk (x y:Nat)(A D:oA9)(n m c d:Nat)(w:World)(hA:zak w x A n c)(hD:zak w y D m d)(hn:n<=17179869184)(hm:m<=17179869184)(hy:y≠0):
  Calls Tryz.prog 140 #[.slice A n c,.slice D m d] w (zjc w (x / y) (x%y)):=by
 have hlx:=lh9 hA.len
 have hly:=lh9 hD.len
 have HA:=lh9 (λw' (hb:Below w.heap.size w w')=>hA.below hb)
 have HD:=lh9 (λw' (hb:Below w.heap.size w w')=>hD.below hb)
 have RB:=zjH x A n c w hA (by omega)
 have hbl:bitLen x<=16*n:=by
  have h1:=zaS (b:=65536) (by decide) x
  rw [<-hA.len,show(65536:Nat)=2^16 from rfl,<-Nat.pow_mul] at h1
  exact zcY _ _ h1
 have h0:x / 2^bitLen x=0:=Nat.div_eq_of_lt (lt_bits x)
 obtain⟨l,hl⟩:∃l,bitLen x=l:=⟨_,rfl⟩
 rw [hl] at RB hbl h0
 have HRB:=lh9 RB
 have H0:=lh9 h0
 clear hA hD RB hl h0
 go_enter Tryz.func140,Tryz.ntmps140
 go_wp2_with fail
 refine HRB.out.mono ?_
 rintro e w' ⟨rfl,rfl⟩
 go_wp2_with fail
 go_loopg [6,7,8] (l+1) (λg qs rs ix wr=>∃(j:Nat) (A1:oA9) (n1 c1:Nat) (A2:oA9) (n2 c2:Nat),j<=l/\j<g/\ix=.int .i64 ((j:Int) - 1)/\qs=.slice A1 n1 c1/\rs=.slice A2 n2 c2/\Hid (zak wr (x / 2^j / y) A1 n1 c1)/\Hid (zak wr (x / 2^j%y) A2 n2 c2)/\Below w.heap.size w wr)
 case atStart=>
  refine⟨l,none,0,0,none,0,0,Nat.le_refl _,by omega,rfl,rfl,rfl,?_,?_,Below.refl _ _⟩
  ·show zak _ _ _ _ _;rw [H0.out,Nat.zero_div];exact zjo _
  ·show zak _ _ _ _ _;rw [H0.out,Nat.zero_mod];exact zjo _
 case round=>
  obtain⟨j,A1,n1,c1,A2,n2,c2,hjl,hg,rfl,rfl,rfl,hq,hr,hB⟩:=hrel
  by_cases hj:j=0
  ·subst hj
   have e1:=hq.out
   have e2:=hr.out
   rw [Nat.pow_zero,Nat.div_one] at e1 e2
   have HG:Hid (zjc w (x / y) (x%y) (.returned (.tuple #[.slice A1 n1 c1,.slice A2 n2 c2])) wr):=⟨_,_,_,_,_,_,rfl,e1,e2,hB⟩
   clear hq hr e1 e2
   go_wp2
   go_ret2
   exact HG.out
  ·obtain⟨i,rfl⟩:∃i,j=i+1:=⟨j - 1,by omega⟩
   have hqn:n1<=n:=by
    rw [hq.out.len,hlx.out]
    exact zbd (by decide) (Nat.le_trans (Nat.div_le_self _ _) (Nat.div_le_self _ _))
   have hrn:n2<=m:=by
    rw [hr.out.len,hly.out]
    exact zbd (by decide) (Nat.le_of_lt (Nat.mod_lt _ (by omega)))
   have hbit:x / 2^i%2<2:=Nat.mod_lt _ (by decide)
   have hst:=shr_step x i
   have WB:=ref2_bit x i A n c wr (HA.out _ hB) (by omega) (by omega)
   obtain⟨M,hM⟩:∃M,x / 2^(i+1)=M:=⟨_,rfl⟩
   obtain⟨b,hb⟩:∃b,x / 2^i%2=b:=⟨_,rfl⟩
   rw [hM] at hq hr hst
   rw [hb] at hst hbit WB
   have S1:=zfV (M%y) 2 b A2 n2 c2 wr hr.out (by omega) (by decide) (by omega)
   have HWB:=lh9 WB
   have HS1:=lh9 S1
   have HST:=lh9 hst
   have hr1:(dg 65536 (M%y*2+b)).length<=n2+1:=by
    refine zbj (by decide) _ _ ?_
    have h1:=zaS (b:=65536) (by decide) (M%y)
    rw [<-hr.out.len] at h1
    rw [Nat.pow_succ];omega
   have hq1:(dg 65536 (M / y*2+0)).length<=n1+1:=by
    refine zbj (by decide) _ _ ?_
    have h1:=zaS (b:=65536) (by decide) (M / y)
    rw [<-hq.out.len] at h1
    rw [Nat.pow_succ];omega
   clear WB S1 hM hb hr hst
   go_wp2_with fail
   refine HWB.out.mono ?_
   rintro e w' ⟨rfl,rfl⟩
   go_wp2_with fail
   refine HS1.out.mono ?_
   intro e w1 hg1
   obtain⟨A3,n3,c3,rfl,hh3,hb1⟩:=hg1.elim
   have hB1:=zac hB hb1
   have hn3:n3<=m+1:=by rw [hh3.len];omega
   have HS2:=lh9 (zfV (M / y) 2 0 A1 n1 c1 w1 (hq.out.below hb1) (by omega) (by decide) (by decide))
   have H3:=lh9 hh3
   clear hg1 hh3 hb1 hq HS1
   go_wp2_with fail
   refine HS2.out.mono ?_
   intro e w2 hg2
   obtain⟨A4,n4,c4,rfl,hh4,hb2⟩:=hg2.elim
   have hB2:=zac hB1 hb2
   have hn4:n4<=n+1:=by rw [hh4.len];omega
   have H3:=lh9 (H3.out.below hb2)
   have H4:=lh9 hh4
   have HCM:=lh9 (zgz (M%y*2+b) y A3 D n3 m c3 d w2 H3.out (HD.out _ hB2) (by omega) (by omega))
   clear hg2 hh4 hb2 HS2
   go_wp2_with fail
   refine HCM.out.mono ?_
   rintro e w3 ⟨rfl,q,rfl⟩
   clear HCM
   by_cases hlt:M%y*2+b<y
   ·have hd:decide (zbh (M%y*2+b) y>=0)=false:=by
     show decide (0<=zbh _ _)=false
     rw [zkY];simp;omega
    have hd2:decide (0<=zbh (M%y*2+b) y)=false:=hd
    obtain⟨e1,e2⟩:=div_no hbit hlt
    rw [<-HST.out] at e1 e2
    have HQ:Hid (zak (w2.drewN q) (x / 2^i / y) A4 n4 c4):=by show zak _ _ _ _ _;rw [e1];exact H4.out
    have HR:Hid (zak (w2.drewN q) (x / 2^i%y) A3 n3 c3):=by show zak _ _ _ _ _;rw [e2];exact H3.out
    have hB3:=zaW hB2 q
    obtain⟨z,hz⟩:∃z,zbh (M%y*2+b) y=z:=⟨_,rfl⟩
    rw [hz] at hd hd2⊢
    clear e1 e2 hz hlt
    go_wp2
    go_roundg (i+1)
    case measure=>omega
    case rel=>exact⟨i,_,_,_,_,_,_,by omega,by omega,by go_num,rfl,rfl,HQ,HR,hB3⟩
   ·have hd:decide (zbh (M%y*2+b) y>=0)=true:=by
     show decide (0<=zbh _ _)=true
     rw [zkY];simp;omega
    have hd2:decide (0<=zbh (M%y*2+b) y)=true:=hd
    obtain⟨e1,e2⟩:=div_yes hy hbit (by omega:y<=M%y*2+b)
    rw [<-HST.out] at e1 e2
    have HS3:=lh9 (zfd (M%y*2+b) y (by omega) A3 D n3 m c3 d (w2.drewN q) H3.out (HD.out _ (zaW hB2 q)) (by omega) (by omega))
    have E1:=lh9 e1
    have E2:=lh9 e2
    have hB3:=zaW hB2 q
    obtain⟨z,hz⟩:∃z,zbh (M%y*2+b) y=z:=⟨_,rfl⟩
    rw [hz] at hd hd2⊢
    clear e1 e2 hz hlt
    go_wp2_with fail
    refine HS3.out.mono ?_
    intro e w4 hg3
    obtain⟨A5,n5,c5,rfl,hh5,hb3⟩:=hg3.elim
    have hB4:=zac hB3 hb3
    have H4b:zak (w2.drewN q) (M / y*2+0) A4 n4 c4:=H4.out
    have st:=zbp w4 (.cells #[.int .i64 1] 3)
    have h1:=zoZ _ _ (Blk.new w4 3 #[.int .i64 1])
    have HS4:=lh9 (ref2_add (M / y*2+0) 1 A4 (some ⟨w4.heap.size,0,none⟩) n4 1 c4 1 _ ((H4b.below hb3).below st) h1 (by omega) (by omega))
    have H5:=lh9 (hh5.below st)
    have hB5:=zac hB4 st
    clear hg3 hh5 hb3 HS3 H4b h1 st
    go_wp2_with fail
    refine HS4.out.mono ?_
    intro e w5 hg4
    obtain⟨A6,n6,c6,rfl,hh6,hb4⟩:=hg4.elim
    have hB6:=zac hB5 hb4
    have HQ:Hid (zak w5 (x / 2^i / y) A6 n6 c6):=by show zak _ _ _ _ _;rw [E1.out];exact hh6
    have HR:Hid (zak w5 (x / 2^i%y) A5 n5 c5):=by show zak _ _ _ _ _;rw [E2.out];exact H5.out.below hb4
    clear hg4 hh6 hb4 HS4
    go_wp2
    go_roundg (i+1)
    case measure=>omega
    case rel=>exact⟨i,_,_,_,_,_,_,by omega,by omega,by go_num,rfl,rfl,HQ,HR,hB6⟩
