/- What this claim leans on. -/
import Derived.Test.YtcojjcjgbepicaaGreatDoorEVMade
import Derived.ArgAppend
namespace Go.Proofs.YtcojjcjgbepicaaGreatDoor
open Go Go.RowKit
set_option maxHeartbeats 16000000
set_option linter.unusedVariables false
def zbL (l:Rat)(row:List Rat):Rat:=row.foldl (λl x=>l*(((l*x).den:Nat):Rat)) l
def zaK (row:List Rat):Rat:=zbL 1 row
def zeV (x:Rat):Prop:=∃z:Int,x=(z:Rat)
theorem zeV.mul {x y:Rat}(h:zeV x)(k:zeV y):zeV (x*y):=by
 obtain⟨z,rfl⟩:=h;obtain⟨t,rfl⟩:=k;exact⟨z*t,(Rat.intCast_mul z t).symm⟩
theorem zeV.nat (n:Nat):zeV (n:Rat):=⟨n,(Rat.intCast_natCast n).symm⟩
theorem den_ne (x:Rat):((x.den:Nat):Rat)≠0:=λh=>x.den_nz (by
 have:((x.den:Nat):Rat)=((0:Nat):Rat):=h
 exact Rat.natCast_inj.1 this)
theorem den_int (x:Rat):zeV (((x.den:Nat):Rat)*x):=⟨x.num,by rw [Rat.mul_comm];exact zdn x⟩
theorem zdK (l x:Rat)(row:List Rat):zbL l (x::row)=zbL (l*(((l*x).den:Nat):Rat)) row:=rfl
theorem zjc:∀{row:List Rat} {l:Rat},l≠0->zbL l row≠0
 |[],_,h=>h
 |x::row,l,h=>by
   rw [zdK]
   refine zjc λe=>?_
   rcases Rat.mul_eq_zero.1 e with e|e
   ·exact h e
   ·exact den_ne _ e
theorem zgP:∀{row:List Rat} {l:Rat},∃q:Rat,zeV q/\zbL l row=q*l
 |[],l=>⟨1,⟨1,by decide+kernel⟩,(Rat.one_mul l).symm⟩
 |x::row,l=>by
   obtain⟨q,hq,e⟩:=zgP (row:=row) (l:=l*(((l*x).den:Nat):Rat))
   exact⟨q*(((l*x).den:Nat):Rat),hq.mul (zeV.nat _),by rw [zdK,e];grind⟩
theorem zjW:∀{row:List Rat} {l:Rat},∀x ∈ row,zeV (zbL l row*x)
 |x::row,l,y,h=>by
   rcases List.mem_cons.1 h with rfl|h
   ·obtain⟨q,hq,e⟩:=zgP (row:=row) (l:=l*(((l*y).den:Nat):Rat))
    rw [zdK,e]
    have:=hq.mul (den_int (l*y))
    rw [show q*(l*(((l*y).den:Nat):Rat))*y=q*((((l*y).den:Nat):Rat)*(l*y)) by grind]
    exact this
   ·rw [zdK];exact zjW y h
theorem den_dvd {q z:Int}{r:Rat}(h:(q:Rat)*r=(z:Rat)):(r.den:Int)∣ q:=by
 have h1:(q:Rat)*(r*((r.den:Nat):Rat))=(z:Rat)*((r.den:Nat):Rat):=by rw [<-h];grind
 rw [zdn,<-Rat.intCast_mul,<-Rat.intCast_natCast,<-Rat.intCast_mul] at h1
 have h2:q*r.num=z*(r.den:Int):=Rat.intCast_inj.1 h1
 have h3:r.den ∣ q.natAbs*r.num.natAbs:=by
  rw [<-Int.natAbs_mul,h2,Int.natAbs_mul]
  exact⟨z.natAbs,by rw [Nat.mul_comm];rfl⟩
 have h4:r.den ∣ q.natAbs:=Nat.Coprime.dvd_of_dvd_mul_right r.reduced.symm h3
 exact Int.ofNat_dvd_left.2 h4
theorem LI.int {K:Nat}{x:Rat}(h:LI K x):zeV x:=by obtain⟨z,e,_⟩:=h;exact⟨z,e⟩
theorem LI.of_mul {K:Nat}{q x y:Rat}(h:LI K y)(hq:zeV q)(hx:zeV x)(e:y=q*x)(h0:q≠0):LI K x:=by
 obtain⟨z,rfl⟩:=hq;obtain⟨t,rfl⟩:=hx;obtain⟨v,rfl,hv⟩:=h
 refine⟨t,rfl,hv.of_le ?_⟩
 rw [<-Rat.intCast_mul] at e
 rw [Rat.intCast_inj.1 e,Int.natAbs_mul]
 have:z≠0:=λhz=>h0 (by rw [hz];rfl)
 exact Nat.le_mul_of_pos_left _ (Int.natAbs_pos.2 this)
theorem zpP {row:List Rat}{l:Rat}(h:zeV l):zeV (zbL l row):=by
 obtain⟨q,hq,e⟩:=zgP (row:=row) (l:=l);rw [e];exact hq.mul h
theorem one_int:zeV 1:=⟨1,by decide+kernel⟩
theorem zjY (row:List Rat):zaK row≠0:=zjc (by decide+kernel)
theorem zmp:∀{row:List Rat} {l:Rat} {K L:Nat},LI L l->(∀x ∈ row,SzQ K x)->LI (L+row.length*K) (zbL l row)
 |[],l,K,L,hl,_=>by rw [List.length_nil,Nat.zero_mul];exact hl
 |x::row,l,K,L,hl,h=>by
   rw [zdK]
   have h1:LI K (((l*x).den:Nat):Rat):=by
    obtain⟨z,hz,_⟩:=hl
    have hd:(l*x).den ∣ x.den:=by
     have:((x.den:Int):Rat)*(l*x)=((z*x.num:Int):Rat):=by
      rw [Rat.intCast_mul,<-hz,<-zdn x,Rat.intCast_natCast];grind
     exact Int.natCast_dvd_natCast.1 (den_dvd this)
    exact⟨((l*x).den:Int),(Rat.intCast_natCast _).symm,((h x List.mem_cons_self).den).of_le (Nat.le_of_dvd (Nat.pos_of_ne_zero x.den_nz) hd)⟩
   refine(zmp (K:=K) (hl.mul h1) λy hy=>h y (List.mem_cons_of_mem _ hy)).up ?_
   rw [List.length_cons,Nat.succ_mul];omega
theorem num_le {l x:Rat}{L K:Nat}(hl:LI L l)(hx:SzQ K x)(hi:zeV (l*x)):LI (L+K) (l*x):=by
 obtain⟨z,hz,hz2⟩:=hl
 obtain⟨t,ht⟩:=hi
 refine⟨t,ht,?_⟩
 -- t*den=z*num
 have h1:t*(x.den:Int)=z*x.num:=by
  have:(t:Rat)*((x.den:Nat):Rat)=(z:Rat)*(x.num:Rat):=by
   rw [<-ht,hz,<-zdn x];grind
  rw [<-Rat.intCast_natCast,<-Rat.intCast_mul,<-Rat.intCast_mul] at this
  exact Rat.intCast_inj.1 this
 have h2:t.natAbs*x.den=z.natAbs*x.num.natAbs:=by
  rw [<-Int.natAbs_mul,<-h1,Int.natAbs_mul];rfl
 refine(hz2.mul hx.num).of_le ?_
 rw [<-h2]
 exact Nat.le_mul_of_pos_right _ (Nat.pos_of_ne_zero x.den_nz)
theorem zjX {row:List Rat}{K n:Nat}(hn:row.length<=n)(h:∀x ∈ row,SzQ K x):LI (1+(n+1)*K) (zaK row)/\∀x ∈ row,LI (1+(n+1)*K) (zaK row*x):=by
 have h1:=zmp (K:=K) LI.one h
 have hm:row.length*K<=n*K:=Nat.mul_le_mul_right _ hn
 have hs:(n+1)*K=n*K+K:=Nat.succ_mul n K
 exact⟨h1.up (by omega),λx hx=>(num_le h1 (h x hx) (zjW x hx)).up (by omega)⟩
theorem znO {row:List Rat}{K k:Nat}(h:LI K (zaK row)):LI K (zaK (row.take k)):=by
 obtain⟨q,hq,e⟩:=zgP (row:=row.drop k) (l:=zaK (row.take k))
 have e2:zbL (zaK (row.take k)) (row.drop k)=zaK row:=by
  unfold zaK zbL
  rw [<-List.foldl_append,List.take_append_drop]
 rw [e2] at e
 exact h.of_mul hq (zpP one_int) e λhz=>zjY row (by rw [e,hz,Rat.zero_mul])
theorem znN {row:List Rat}{k:Nat}(h:k<row.length):zaK (row.take (k+1))=zaK (row.take k)*(((zaK (row.take k)*row.getD k 0).den:Nat):Rat):=by
 unfold zaK zbL
 rw [List.take_succ_eq_append_getElem h,List.foldl_append,List.getD_eq_getElem?_getD,List.getElem?_eq_getElem h]
 rfl
theorem num_div {x:Rat}(h:x.den≠1):(x.num:Rat) / x=((x.den:Nat):Rat):=by
 have hx:x≠0:=λe=>h (by rw [e];rfl)
 have:=zdn x
 rw [<-this]
 grind
section
variable {P:Program}{ops:Array Oper}{Q:Exit->Act->World->Prop}{S:World->Prop}{fuel:Nat}{l:Array Bool}{a:Act}{w:World}
theorem rcb (i j:Nat){o p:Oper}(hk:∀K':Act->World->Prop,Shut (∀(a:Act) (w:World),S w->(S w->wpAnyH P .any ops (NoPanic Q) S fuel (l.setIfInBounds i true) a w)->K' a w)->Oper.wp P o a w K' (NoPanic Q))(hj:∀K':Act->World->Prop,Shut (∀(a:Act) (w:World),S w->(S w->wpAnyH P .any ops (NoPanic Q) S fuel (l.setIfInBounds j true) a w)->K' a w)->Oper.wp P p a w K' (NoPanic Q))(h1:ops[i]?=some o:=by simp only [List.getElem?_toArray,List.getElem?_cons_succ,List.getElem?_cons_zero];rfl)(h1':ops[j]?=some p:=by simp only [List.getElem?_toArray,List.getElem?_cons_succ,List.getElem?_cons_zero];rfl)(h2:Region.ready .any ops l=[i,j]:=by kernel_rfl)(h3:Region.wanted o (yielded ops a.tmps)=true:=by rfl)(h3':Region.wanted p (yielded ops a.tmps)=true:=by rfl):wpAnyH P .any ops (NoPanic Q) S (fuel+1) l a w:=
 wpAnyH_ready h2 (by simp) (AllReadyH.cons h1 (λK' hK=>by rw [if_pos h3];exact hk K' hK) (AllReadyH.cons h1' (λK' hK=>by rw [if_pos h3'];exact hj K' hK) AllReadyH.nil))
end
set_option maxRecDepth 100000
set_option linter.unusedSimpArgs false
theorem tabN_len (n m:Nat)(f:Nat->Nat->Rat):(zdy n m f).length=n:=by simp [zdy]
theorem tabN_get {n m:Nat}(f:Nat->Nat->Rat){r:Nat}(h:r<n):(zdy n m f)[r]?=some ((List.range m).map (f r)):=by
 unfold zdy
 rw [List.getElem?_map,List.getElem?_range h]
 rfl
theorem zns (m:Nat)(f:Nat->Rat):((List.range m).map f).length=m:=by simp
theorem znr {m:Nat}(f:Nat->Rat){c:Nat}(h:c<m):((List.range m).map f)[c]?=some (f c):=by
 rw [List.getElem?_map,List.getElem?_range h]
 rfl
theorem zkC {w:World}{g n m:Nat}{M:List (List Rat)}(h:zaZ (zaN zai) w 71 g n M)(hd:zaW M n m)(hn:n<=64)(hm:m<=64):zaS w (some ⟨g,0,none⟩) n n m M:=⟨hd,Nat.le_refl _,by omega,hn,hm,h.rows,λad e=>by obtain⟨cs,hk,_⟩:=h.blk;injection e with e;subst e;exact⟨cs,hk⟩⟩
def GivesAt (f:Nat->Nat->Rat)(F:FuncId)(cap:Array Value)(n m:Nat)(w:World):Prop:=
 (∀ (args : Array Value) (w' : World),Sem.run Tryz.prog (callFunc F args) w' = .ok (.enter F args) w') ∧
   ∀r c,r<n->c<m->∀w',Below w.heap.size w w'->Calls Tryz.prog F (#[.int .i64 (r:Int),.int .i64 (c:Int)]++cap) w' (zaH w' (f r c))
theorem ziA {K:Nat}(f:Nat->Nat->Rat)(F:FuncId)(cap:Array Value)(n m:Nat)(w:World)(hT:zaj w)(hG:GivesAt f F cap n m w)(hS:∀r c,r<n->c<m->SzQ K (f r c))(hn:n<=64:=by omega)(hm:m<=64:=by omega)(hK:K+2<=67108864:=by omega):
  Calls Tryz.prog 71 #[.int .i64 (n:Int),.int .i64 (m:Int),.func (.func F) #[] cap] w (zci w n m (zdy n m f)):=by
 obtain⟨hEn,hF⟩:=hG
 have HF:=lh9 hF
 have HT:=lh9 (λw' (hb:Below w.heap.size w w')=>hT.on hb)
 have HLM:=lh9 (tabN_len n m f)
 have HGM:Hid (∀r,r<n->(zdy n m f)[r]?=some ((List.range m).map (f r))):=λr hr=>tabN_get f hr
 have HGR:Hid (∀r c,c<m->((List.range m).map (f r))[c]?=some (f r c)):=λr c hc=>znr (f r) hc
 have HLR:Hid (∀r,((List.range m).map (f r)).length=m):=λr=>zns m (f r)
 have HSR:Hid (∀r,r<n->zat K ((List.range m).map (f r))):=λr hr x hx=>by
  obtain⟨c,hc,rfl⟩:=List.mem_map.1 hx
  exact hS r c hr (List.mem_range.1 hc)
 have HDM:=lh9 (zeo n m f)
 obtain⟨ROW,hROW⟩:∃ROW:Nat->List Rat,(λr=>(List.range m).map (f r))=ROW:=⟨_,rfl⟩
 have hROW2:∀r,(List.range m).map (f r)=ROW r:=λr=>by rw [<-hROW]
 simp only [hROW2] at HGM HGR HLR HSR
 obtain⟨M,hM⟩:∃M,zdy n m f=M:=⟨_,rfl⟩
 rw [hM] at HLM HGM HDM⊢
 obtain⟨Z,hZ⟩:=zei m (by omega)
 have HMK:∀W,(Instr.makeSlice 71 (.int .i64 (m:Int)) (.int .i64 (m:Int))).run Tryz.prog W=.ok (.slice (some ⟨W.heap.size,0,none⟩) m m) (W.alloc (.cells Z 53)):=λW=>(hZ W).1
 have HOWN:=lh9 (λW=>(hZ W).2)
 obtain⟨Y,hY⟩:=zhc n (by omega)
 have HMKV:∀W,(Instr.makeSlice 30 (.int .i64 (n:Int)) (.int .i64 (n:Int))).run Tryz.prog W=.ok (.slice (some ⟨W.heap.size,0,none⟩) n n) (W.alloc (.cells Y 71)):=λW=>(hY W).1
 have HOWNV:=lh9 (λW=>(hY W).2)
 obtain⟨b1,b2,b3,b4,b5⟩:=zbA w 32 71 32 #[.slice none 0 0,.int .i64 0] Y #[.slice (some ⟨w.heap.size+1,0,none⟩) n n,.int .i64 (m:Int)]
 clear hT hF hS hROW hROW2 hM hZ hY
 unfold zci
 have i0:(0:Int)<=(n:Int):=by omega
 have i1:(0:Int)<=(m:Int):=by omega
 go_enter Tryz.func71,Tryz.ntmps71
 go_wp2_with fail
 have hrow:zaZ (zaN zai) (((w.alloc (.cells #[.slice none 0 0,.int .i64 0] 32)).alloc (.cells Y 71)).alloc (.cells #[.slice (some ⟨w.heap.size+1,0,none⟩) n n,.int .i64 (m:Int)] 32)) 71 (w.heap.size+1) n (zcB [] M n 0):=by
  have h1:=HOWNV.out (w.alloc (.cells #[.slice none 0 0,.int .i64 0] 32))
  have e1:(w.alloc (.cells #[.slice none 0 0,.int .i64 0] 32)).heap.size=w.heap.size+1:=by simp
  rw [e1] at h1
  rw [zbR]
  exact h1.below (zam zaf) (zaw _ _ _).1
 clear b3 HOWNV HMKV
 obtain⟨g0,hg0⟩:∃g,w.heap.size=g:=⟨_,rfl⟩
 have hwg:w.heap.size<=g0:=by omega
 rw [hg0] at hrow b1 b2 b4 b5⊢
 generalize ((w.alloc (.cells #[.slice none 0 0,.int .i64 0] 32)).alloc (.cells Y 71)).alloc (.cells #[.slice (some ⟨g0+1,0,none⟩) n n,.int .i64 (m:Int)] 32)=W1 at*
 rw [<-hg0] at b1
 clear hg0
 go_loopg [18] (n+1) (λg ix wr=>∃(k:Nat),k<=n/\n<g+k/\ix=.int .i64 k/\zaZ (zaN zai) wr 71 (g0+1) n (zcB [] M n k)/\Below w.heap.size w wr/\Blk wr g0 32 #[.slice none 0 0,.int .i64 0]/\Blk wr (g0+1+1) 32 #[.slice (some ⟨g0+1,0,none⟩) n n,.int .i64 (m:Int)])
 case atStart=>exact⟨0,Nat.zero_le _,by omega,rfl,hrow,b1,b2,b4⟩
 case round=>
  clear hrow b1 b2 b4 b5
  obtain⟨k,hkn,hg,rfl,hrow,hB,hk0,hk2⟩:=hrel
  obtain⟨wo,hwo⟩:∃wo,wo=wr:=⟨_,rfl⟩
  subst hwo
  by_cases hlt:k<n
  ·have hd1:decide ((k:Int)<(n:Int))=true:=decide_eq_true (by omega)
   have i2:(0:Int)<=(k:Int):=by omega
   have i3:(k:Int)<(n:Int):=by omega
   have hg1:=hrow.lt
   have HROW:=lh9 hrow
   have HB:=lh9 hB
   have HK0:=lh9 hk0
   have HK2:=lh9 hk2
   have HGRK:=lh9 (HGR.out k)
   have HLRK:=lh9 (HLR.out k)
   have HSRK:=lh9 (HSR.out k hlt)
   have HGMK:=lh9 (HGM.out k hlt)
   obtain⟨R,hR⟩:∃R,ROW k=R:=⟨_,rfl⟩
   rw [hR] at HGRK HLRK HSRK HGMK
   clear hrow hB hk0 hk2 hR
   go_wp2_with fail
   have hin:=HOWN.out wo
   have hb1:Below wo.heap.size wo (wo.alloc (.cells Z 53)):=(Below.refl _ wo).alloc (Nat.le_refl _) _
   rw [<-zbR 0 R m] at hin
   obtain⟨gr,hgr⟩:∃g,wo.heap.size=g:=⟨_,rfl⟩
   have hwr:wo.heap.size<=gr:=by omega
   rw [hgr] at hin⊢
   generalize wo.alloc (.cells Z 53)=W2 at*
   clear hgr
   go_loopg [25] (m+1) (λg jx wr=>∃(j:Nat),j<=m/\m<g+j/\jx=.int .i64 j/\zbT wr gr m (zcB 0 R m j)/\Below wo.heap.size wo wr)
   case atStart=>exact⟨0,Nat.zero_le _,by omega,rfl,hin,hb1⟩
   case round=>
    clear hin hb1
    obtain⟨j,hjm,hg2,rfl,hin,hb1⟩:=hrel
    by_cases hjl:j<m
    ·have hd2:decide ((j:Int)<(m:Int))=true:=decide_eq_true (by omega)
     have i4:(0:Int)<=(j:Int):=by omega
     have i5:(j:Int)<(m:Int):=by omega
     have HIN:=lh9 hin
     have HB1:=lh9 hb1
     have HGJ:=lh9 (HGRK.out j hjl)
     clear hin hb1
     go_wp2_with fail
     refine(HF.out k j hlt hjl _ (zaa HB.out HB1.out)).mono ?_
     rintro e w3 ⟨b3,A3,n3,c3,E3,k3,f3,rfl,hw3,hb⟩
     have hr3:=HIN.out.keep hb
     have hr4:=zbi.set_ zaf hr3 hjl hw3
     rw [zcl 0 R m j HLRK.out hjl _ HGJ.out] at hr4
     obtain⟨q0,q1,q2,sc0,sf0,sc1,sf1,sc2,sf2⟩:=hr3.ready hjl (.bool b3) (.slice A3 n3 c3)
     have HR4:=lh9 hr4
     have HB4:=lh9 (zbQ (j*3) (j*3+1) (j*3+2) (.bool b3) (.slice A3 n3 c3) (.slice E3 k3 f3) hwr (zaa HB1.out hb))
     clear hr3 hr4 hb hw3 HIN HB1
     go_wp2
     go_roundg (m - j)
     case measure=>omega
     case rel=>exact⟨j+1,by omega,by omega,by go_num,HR4.out,HB4.out⟩
    ·have hj:j=m:=by omega
     subst hj
     have hd2:decide ((j:Int)<(j:Int))=false:=by simp
     have HV:=lh9 (zaD (zck 0 R j HLRK.out▸hin))
     have hz2:=zab hb1 HK2.out
     have HROW1:=lh9 (HROW.out.below (zam zaf) hb1)
     have HB2:=lh9 (zaa HB.out hb1)
     have HK01:=lh9 (zab hb1 HK0.out)
     have HK21:=lh9 hz2
     obtain⟨p0,p1⟩:=hz2.c2
     have hbd:=(Below.refl wr.heap.size wr).drew
     clear hin hb1
     go_wp2_with fail
     refine rg (csc p0 csn) (λhHeld=>?_)
     clear p0 p1
     have HV:=lh9 (HV.out.keep hbd)
     have HROW1:=lh9 (HROW1.out.below (zam zaf) hbd)
     have HB2:=lh9 (zaa HB2.out hbd)
     have HK01:=lh9 (zab hbd HK01.out)
     have HK21:=lh9 (zab hbd HK21.out)
     clear hbd
     generalize wr.drew=D at*
     refine tk 0 ?_
     refine tk 1 ?_
     refine tk 2 ?_
     refine tk 3 ?_
     refine rc 4 (λKK hK9=>?_)
     go_simp
     (with_reducible refine(zmm (HT.out _ HB2.out) HV.out HSRK.out).mono ?_)
     rintro e w5 ⟨g5,rfl,hg5,ho5,hb⟩
     refine hK9.out _ _ (Cs.below hHeld hb) (λhHeld=>?_)
     clear hK9 KK
     have hr5:=HROW1.out.below (zam zaf) hb
     have hr6:=zaZ.set_ (zam zaf) hr5 hlt (zaD ho5) HLRK.out
     rw [zcl [] M n k HLM.out hlt _ HGMK.out] at hr6
     obtain⟨q0,sc0,sf0⟩:=hr5.ready hlt
     have hne:g0+1+1≠g0+1:=by omega
     have HR6:=lh9 hr6
     have HB6:=lh9 (zae (p:=⟨g0+1,k,none⟩) (.slice (some ⟨g5,0,none⟩) j j) (show w.heap.size<=g0+1 by omega) (zaa HB2.out hb))
     have HK06:=lh9 (Blk.far (p:=⟨g0+1,k,none⟩) (zab hb HK01.out) (by show g0≠g0+1;omega) (.slice (some ⟨g5,0,none⟩) j j))
     have HK26:=lh9 (Blk.far (p:=⟨g0+1,k,none⟩) (zab hb HK21.out) (by show g0+1+1≠g0+1;omega) (.slice (some ⟨g5,0,none⟩) j j))
     clear hb hr5 hr6 ho5 HROW1 HB2 HK01 HK21 HV
     refine tk 5 ?_
     refine rc 6 (λKK hK9=>?_)
     go_simp
     refine hK9.out _ _ ?_ (λhHeld=>?_)
     ·refine Cs.far hHeld ((zba.refl (g0+1) _).set_ k _) ⟨?_,trivial⟩
      show g0+1+1≠g0+1
      omega
     clear hK9 KK
     refine rdn ?_
     clear hHeld sc0 sf0
     go_wp2
     go_roundg (n - k)
     case measure=>omega
     case rel=>exact⟨k+1,by omega,by omega,by go_num,HR6.out,HB6.out,HK06.out,HK26.out⟩
  ·have hk:k=n:=by omega
   subst hk
   have hd1:decide ((k:Int)<(k:Int))=false:=by simp
   have HM:=lh9 (zkC (zck [] M k HLM.out▸hrow) HDM.out hn hm)
   obtain⟨p0,p1⟩:=hk2.c2
   obtain⟨sc0,sf0,sc1,sf1⟩:=st2 hk0 (.slice (some ⟨g0+1,0,none⟩) k k)
   obtain⟨r0,r1⟩:=(sn2 hk0 (.slice (some ⟨g0+1,0,none⟩) k k) (.int .i64 (m:Int))).c2
   have HG:=lh9 (gm2 HM.out (λad e=>by injection e with e;subst e;show g0<g0+1;omega) hk0 hB hwg)
   unfold zci at HG
   clear hrow hB hk0 hk2
   go_wp2
   refine bodyPost_ret (v:=.agg #[.slice (some ⟨g0+1,0,none⟩) k k,.int .i64 (m:Int)]) (by simp [results,Tryz.results71,go_sem,r0,r1]) rfl ?_
   exact HG.out
theorem may_of {r c:Int}{b:Bool}(h:zhF r c=b)(w:World):Calls Tryz.prog 113 #[.int .i64 r,.int .i64 c] w (λe w'=>e=.returned (.bool b)/\w=w'):=h▸mat_may r c w
theorem mat_mf (fn:Fn)(first cap:Array Value)(w:World):(Instr.makeFunc fn first cap).run Tryz.prog w=.ok (.func fn first cap) w:=rfl
section
variable {A:oA9}{n c m K:Nat}{MM:List (List Rat)}{w:World}
theorem znh (hT:zaj w)(h:zaS w A n c m MM)(z:zaA K MM)(hK:K+2<=67108864:=by omega):Calls Tryz.prog 18 #[.agg #[.slice A n c,.int .i64 (m:Int)]] w (zci w m n (ziW n m MM)):=by
 obtain⟨hn,hm⟩:=And.intro h.hn h.hm
 have HR:=λW=>lh9 (zbu A n c (m:Int) W)
 obtain⟨bx1,bx2,bx3,bz⟩:=zbz w 32 32 #[.slice A n c,.int .i64 (m:Int)] #[.slice none 0 0,.int .i64 0]
 have HM:∀W,Below w.heap.size w W->Blk W w.heap.size 32 #[.slice A n c,.int .i64 (m:Int)]->Hid (Calls Tryz.prog 71 #[.int .i64 (m:Int),.int .i64 (n:Int),.func (.func 72) #[] #[.pointer (some ⟨w.heap.size,0,none⟩)]] W (zci W m n (ziW n m MM))):=λW hW hk=>by
  have hh:=h.keep hW
  exact ziA (K:=K) (λr c=>atM MM c r) 72 #[.pointer (some ⟨w.heap.size,0,none⟩)] m n W (hT.on hW) ⟨zmO,λr c hr hc w' hb=>zoC (hh.keep hb) (zab hb hk) hc hr⟩ (λr c hr hc=>z.at_ h.dims hc hr) hm hn hK
 have HKM:=lh9 bx2
 have HK:=lh9 bx3
 have HB:=lh9 bx1
 obtain⟨p0,p1⟩:=bx2.c2
 clear bx1 bx2 bx3 bz hT h z
 go_enter Tryz.func18,Tryz.ntmps18
 go_wp2_with fail
 generalize (w.alloc (.cells #[.slice A n c,.int .i64 (m:Int)] 32)).alloc (.cells #[.slice none 0 0,.int .i64 0] 32)=W1 at*
 have hbd:=(Below.refl W1.heap.size W1).drew
 refine rg (csc p0 (csc p1 csn)) (λhHeld=>?_)
 clear p0 p1
 have HB:=lh9 (zaa HB.out hbd)
 have HK:=lh9 (zab hbd HK.out)
 have HKM:=lh9 (zab hbd HKM.out)
 clear hbd
 generalize W1.drew=D at*
 refine tk 0 ?_
 refine tk 1 ?_
 refine tk 2 ?_
 refine tk 4 ?_
 refine rc 3 (λKK hK9=>?_)
 go_simp
 refine(HR _).out.mono ?_
 rintro e w2 ⟨rfl,hb⟩
 refine hK9.out _ _ (Cs.below hHeld hb) (λhHeld=>?_)
 clear hK9 KK
 have HB:=lh9 (zaa HB.out hb)
 have HK:=lh9 (zab hb HK.out)
 have HKM:=lh9 (zab hb HKM.out)
 clear hb
 refine rc 5 (λKK hK9=>?_)
 go_simp
 refine(HM _ HB.out HKM.out).out.mono ?_
 rintro e w3 ⟨A3,c3,rfl,hm3,hf3,hb⟩
 refine hK9.out _ _ (Cs.below hHeld hb) (λhHeld=>?_)
 clear hK9 KK
 have hk3:=zab hb HK.out
 obtain⟨sc0,sf0,sc1,sf1⟩:=st2 hk3 (.slice A3 m c3)
 obtain⟨r0,r1⟩:=(sn2 hk3 (.slice A3 m c3) (.int .i64 (n:Int))).c2
 have HG:=lh9 (gm2 hm3 (λad e=>Nat.lt_of_lt_of_le HK.out.lt (hf3 ad e)) hk3 (zaa HB.out hb) (by omega))
 clear hb hk3 hm3 hf3 HK HB HKM HM
 refine rc 6 (λKK hK9=>?_)
 go_simp
 refine hK9.out _ _ ?_ (λhHeld=>?_)
 ·refine Cs.far hHeld (zhG _ _ _ _) ⟨?_,?_,trivial⟩<;>(show w.heap.size≠w.heap.size+1;omega)
 clear hK9 KK
 refine rdn ?_
 clear hHeld sc0 sf0 sc1 sf1
 go_wp2
 refine bodyPost_ret (v:=.agg #[.slice A3 m c3,.int .i64 (n:Int)]) (by simp [results,Tryz.results18,go_sem,r0,r1]) rfl ?_
 exact HG.out
end
structure zeX (w:World)(base g n cap:Nat)(Ls:List (List Rat)):Prop where
 ge:base<=g
 len:Ls.length=n
 fits:n<=cap
 most:cap<=9223372036854775807
 blk:∃cs:Array Value,Blk w g 71 cs/\(∀u ∈ cs.toList,zcf u)/\cs.size=cap
 num:∀i L,Ls[i]?=some L->∃(B:oA9) (d:Nat),w.cell? ⟨g,i,none⟩=some (.slice B L.length d)/\zaC w B L.length d L
theorem zeX.below {w w':World}{base g n cap:Nat}{Ls:List (List Rat)}(h:zeX w base g n cap Ls)(hb:Below w.heap.size w w'):zeX w' base g n cap Ls:=by
 refine⟨h.ge,h.len,h.fits,h.most,?_,λi L hi=>?_⟩
 ·obtain⟨cs,hk,h1,h2⟩:=h.blk
  exact⟨cs,zab hb hk,h1,h2⟩
 ·obtain⟨B,d,h1,h2⟩:=h.num i L hi
  exact⟨B,d,zac hb h1,zaC.keep h2 hb⟩
theorem zeX.rows {w:World}{base g n cap:Nat}{Ls:List (List Rat)}(h:zeX w base g n cap Ls):zaz (zaN zai) w (some ⟨g,0,none⟩) n Ls:=
 ⟨h.len,λi L hi=>by
  obtain⟨cs,hk,_⟩:=h.blk
  obtain⟨B,d,h1,h2⟩:=h.num i L hi
  exact⟨_,B,d,rfl,hk.lt,by rw [zaO];exact h1,h2⟩⟩
