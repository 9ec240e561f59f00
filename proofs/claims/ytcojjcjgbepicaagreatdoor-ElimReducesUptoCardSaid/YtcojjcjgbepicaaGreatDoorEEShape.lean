/- What this claim leans on. -/
import Derived.Test.YtcojjcjgbepicaaGreatDoorEEAwake
namespace Go.Proofs.YtcojjcjgbepicaaGreatDoor
open Go Go.RowKit
set_option maxHeartbeats 16000000
set_option maxRecDepth 100000
set_option linter.unusedVariables false
set_option linter.unusedSimpArgs false
structure Shap (n m:Nat)(RM:List (List Rat))(ld:List Nat):Prop where
 len:ld.length<=n
 lt:∀l,l<ld.length->ld.getD l 0<m
 up:∀l l',l<l'->l'<ld.length->ld.getD l 0<ld.getD l' 0
 first:∀r,r<n->zcU (RM.getD r [])=if r<ld.length then((ld.getD r 0:Nat):Int) else -1
 one:∀l,l<ld.length->(RM.getD l []).getD (ld.getD l 0) 0=1
 off:∀l,l<ld.length->∀i,i<n->i≠l->atM RM i (ld.getD l 0)=0
section
variable {w:World}{A B:oA9}{n c m k cB K:Nat}{RM:List (List Rat)}{ld:List Nat}
theorem zku (hT:zaj w)(h:zaS w A n c m RM)(z:zaA K RM)(hI:zcS w B k (ldI ld))(hk:k=ld.length)(hS:Shap n m RM ld)(hK:K<=16777216:=by omega):
  Calls Tryz.prog 41 #[.agg #[.slice A n c,.int .i64 (m:Int)],.slice B k cB] w (λeo w'=>eo=.returned (.bool true)/\Below w.heap.size w w'):=by
 obtain⟨hn,hm⟩:=And.intro h.hn h.hm
 have hkn:k<=n:=by rw [hk];exact hS.len
 obtain⟨bx1,bx2,-⟩:=zaw w 32 #[.slice A n c,.int .i64 (m:Int)]
 have HM:=lh9 (λw' (hb:Below w.heap.size w w')=>h.keep hb)
 have HI:=lh9 (λw' (hb:Below w.heap.size w w')=>hI.keep hb)
 have HT:=lh9 (λw' (hb:Below w.heap.size w w')=>hT.on hb)
 have HK1:=lh9 (λw' (hb:Below (w.alloc (.cells #[.slice A n c,.int .i64 (m:Int)] 32)).heap.size (w.alloc (.cells #[.slice A n c,.int .i64 (m:Int)] 32)) w')=>zab hb bx2)
 have HB1:=lh9 (λw' (hb:Below (w.alloc (.cells #[.slice A n c,.int .i64 (m:Int)] 32)).heap.size (w.alloc (.cells #[.slice A n c,.int .i64 (m:Int)] 32)) w')=>zaa bx1 hb)
 have HZ:=lh9 z
 have HS:=lh9 hS
 have HKK:=lh9 hk
 clear hT h hI z hS hk bx1 bx2
 go_enter Tryz.func41,Tryz.ntmps41
 go_wp2_with fail
 generalize w.alloc (.cells #[.slice A n c,.int .i64 (m:Int)] 32)=W1 at*
 have hB:=Below.refl W1.heap.size W1
 go_loopg [5,6] (n+1) (λg zl ix wr=>∃(r:Nat) (z:Int),r<=n/\n<g+r/\ix=.int .i64 r/\zl=.int .i64 z/\Hid (∀l,r<=l->l<k->z<((ld.getD l 0:Nat):Int))/\Below W1.heap.size W1 wr)
 case atStart=>exact⟨0,-1,Nat.zero_le _,by omega,rfl,rfl,λl _ _=>by omega,hB⟩
 case round=>
  clear hB
  obtain⟨r,z,hrn,hg,rfl,rfl,hlast,hB⟩:=hrel
  have HLA:=lh9 hlast
  obtain⟨p0,p1⟩:=(HK1.out _ hB).c2
  have HB:=lh9 hB
  clear hB hlast
  by_cases hlt:r<n
  ·have hd1:decide ((r:Int)<(n:Int))=true:=decide_eq_true (by omega)
   go_wp2_with fail
   refine(zbu A n c (m:Int) _).mono ?_
   rintro eo w2 ⟨rfl,hb⟩
   have HB:=lh9 (zaa HB.out hb)
   clear hb p0 p1
   obtain⟨p0,p1⟩:=(HK1.out _ HB.out).c2
   go_wp2_with fail
   (with_reducible refine(zhO (HT.out _ (HB1.out _ HB.out)) (HM.out _ (HB1.out _ HB.out)) HZ.out hlt (by omega)).mono ?_)
   rintro eo w3 ⟨g3,rfl,hg3,ho3,hb⟩
   have HB:=lh9 (zaa HB.out hb)
   have HV:=lh9 (zaD ho3)
   have HX:Hid (zat K (RM.getD r [])):=HZ.out.row (i:=r) (by rw [(HM.out _ (HB1.out _ HB.out)).dims.rows];exact hlt)
   have HF:=lh9 (HS.out.first r hlt)
   clear hb hg3 ho3 p0 p1
   obtain⟨L,hL⟩:∃L,RM.getD r []=L:=⟨_,rfl⟩
   have HO:=lh9 (λhl=>HS.out.one r hl)
   rw [hL] at HV HX HF HO
   clear hL
   go_wp2_with fail
   by_cases hrk:r<k
   ·have hrl:r<ld.length:=by rw [<-HKK.out];exact hrk
    have HF1:Hid (zcU L=((ld.getD r 0:Nat):Int)):=by have:=HF.out;rw [if_pos hrl] at this;exact this
    have HO1:=lh9 (HO.out hrl)
    have hlm:ld.getD r 0<m:=HS.out.lt r hrl
    have hzl:z<((ld.getD r 0:Nat):Int):=HLA.out r (Nat.le_refl _) hrk
    have HU:Hid (∀l,r+1<=l->l<k->((ld.getD r 0:Nat):Int)<((ld.getD l 0:Nat):Int)):=λl h1 h2=>by have:=HS.out.up r l (by omega) (by rw [<-HKK.out];exact h2);omega
    have HOF:=lh9 (λi (h1:i<n) (h2:i≠r)=>HS.out.off r hrl i h1 h2)
    have HIN:Hid (∀w',Below w.heap.size w w'->∃ad:Addr,B=some ad/\w'.cell? (ad.add r)=some (.int .i64 ((ld.getD r 0:Nat):Int))):=λw' hb=>by
     obtain⟨ad,e,hc⟩:=(HI.out w' hb).num r hrk
     rw [zkv hrl] at hc
     exact⟨ad,e,hc⟩
    obtain⟨l,hl⟩:∃l,ld.getD r 0=l:=⟨_,rfl⟩
    rw [hl] at HF1 HO1 hlm hzl HU HOF HIN
    clear HF HO hl HLA
    (with_reducible refine(zdW HF1.out (HT.out _ (HB1.out _ HB.out)) HV.out HX.out (by omega) (by omega)).mono ?_)
    rintro eo w4 ⟨rfl,hb⟩
    have HB:=lh9 (zaa HB.out hb)
    have HV:=lh9 (HV.out.keep hb)
    clear hb
    obtain⟨ad,hadB,hc⟩:=HIN.out _ (HB1.out _ HB.out)
    have hd2:decide ((r:Int)>=(k:Int))=false:=decide_eq_false (by omega)
    have hd2':decide ((k:Int)<=(r:Int))=false:=decide_eq_false (by omega)
    have hd3:decide ((l:Int)<0)=false:=decide_eq_false (by omega)
    have i0:(0:Int)<=(r:Int):=by omega
    have i1:(r:Int)<(k:Int):=by omega
    subst hadB
    go_wp2_with fail
    (with_reducible refine(zdW HF1.out (HT.out _ (HB1.out _ HB.out)) HV.out HX.out (by omega) (by omega)).mono ?_)
    rintro eo w5 ⟨rfl,hb⟩
    have HB:=lh9 (zaa HB.out hb)
    have HV:=lh9 (HV.out.keep hb)
    clear hb hc
    have hd4:decide ((l:Int)<=z)=false:=decide_eq_false (by omega)
    have i2:(0:Int)<=(l:Int):=by omega
    have i3:(l:Int)<(m:Int):=by omega
    obtain⟨ae,b1,B1,m1,d1,E1,u1,v1,hae,-,hc0,hc1,hc2,hx⟩:=HV.out.get (Below.refl _ _) (i:=l) hlm
    obtain rfl:(⟨g3,0,none⟩:Addr)=ae:=Option.some.inj hae
    have HX1:=lh9 hx
    have HSZ:Hid (SzQ K (L.getD l 0)):=HX.out.at_ (by rw [HV.out.len];exact hlm)
    have hadd:(⟨g3,0,none⟩:Addr).add (l*3)=⟨g3,l*3,none⟩:=by
     unfold Addr.add
     split
     ·next h0=>rw [h0]
     ·simp
    rw [hadd] at hc0 hc1 hc2
    have hc1:w5.cell? ⟨g3,l*3+1,none⟩=some (.slice B1 m1 d1):=hc1
    have hc2:w5.cell? ⟨g3,l*3+2,none⟩=some (.slice E1 u1 v1):=hc2
    clear hae hx hadd
    go_wp2_with fail
    (with_reducible refine(zoa (λ_ _ h hb=>h.on hb) zbE qc10 1 1 (L.getD l 0) K b1 B1 m1 d1 E1 u1 v1 _ hK HSZ.out HX1.out (HT.out _ (HB1.out _ HB.out)) (by decide) (by decide) (by decide) (by decide) (by decide) (by rw [HO1.out];decide+kernel)).mono ?_)
    rintro eo w6 ⟨rfl,hb⟩
    have HB:=lh9 (zaa HB.out hb)
    clear hb hc0 hc1 hc2 HX1 HSZ HV HX HF1 HO1
    go_wp2_with fail
    have hB:=HB.out
    go_loopg [10] (n+1) (λg ix wr=>∃(q:Nat),q<=n/\n<g+q/\ix=.int .i64 q/\Below W1.heap.size W1 wr)
    case atStart=>exact⟨0,Nat.zero_le _,by omega,rfl,hB⟩
    case round=>
     clear hB
     obtain⟨q,hqn,hg2,rfl,hB⟩:=hrel
     obtain⟨p0,p1⟩:=(HK1.out _ hB).c2
     have HB2:=lh9 hB
     clear hB
     by_cases hlq:q<n
     ·have hd5:decide ((q:Int)<(n:Int))=true:=decide_eq_true (by omega)
      go_wp2_with fail
      refine(zbu A n c (m:Int) _).mono ?_
      rintro eo w7 ⟨rfl,hb⟩
      have HB2:=lh9 (zaa HB2.out hb)
      clear hb p0 p1
      obtain⟨p0,p1⟩:=(HK1.out _ HB2.out).c2
      by_cases hqr:q=r
      ·have hd6:decide ((q:Int)=(r:Int))=true:=decide_eq_true (by omega)
       subst hqr
       go_wp2
       go_roundg (n - q)
       case measure=>omega
       case rel=>exact⟨q+1,by omega,by omega,by go_num,HB2.out⟩
      ·have hd6:((q:Int)=(r:Int))=False:=eq_false (by omega)
       have HO2:=lh9 (HOF.out q hlq hqr)
       go_wp2_with fail
       (with_reducible refine(zkw (HT.out _ (HB1.out _ HB2.out)) (HM.out _ (HB1.out _ HB2.out)) HZ.out hlq hlm (by omega)).mono ?_)
       rintro eo w8 ⟨b8,A8,n8,c8,E8,k8,f8,rfl,hw8,hb⟩
       have HB2:=lh9 (zaa HB2.out hb)
       have HW8:=lh9 hw8
       have HZ8:=lh9 (HZ.out.at_ (HM.out _ (HB1.out _ HB2.out)).dims hlq hlm)
       clear hb hw8 p0 p1
       go_wp2_with fail
       (with_reducible refine(zkE (decide_eq_true HO2.out) (HT.out _ (HB1.out _ HB2.out)) HW8.out HZ8.out (by omega)).mono ?_)
       rintro eo w9 ⟨rfl,hb⟩
       have HB2:=lh9 (zaa HB2.out hb)
       clear hb HW8 HZ8 HO2
       go_wp2
       go_roundg (n - q)
       case measure=>omega
       case rel=>exact⟨q+1,by omega,by omega,by go_num,HB2.out⟩
     ·have hd5:decide ((q:Int)<(n:Int))=false:=decide_eq_false (by omega)
      go_wp2_with fail
      refine(zbu A n c (m:Int) _).mono ?_
      rintro eo w7 ⟨rfl,hb⟩
      have HB2:=lh9 (zaa HB2.out hb)
      clear hb p0 p1
      go_wp2
      go_roundg (n - r)
      case measure=>omega
      case rel=>exact⟨r+1,l,by omega,by omega,by go_num,rfl,HU,HB2.out⟩
   ·have HF1:Hid (zcU L= -1):=by have:=HF.out;rw [if_neg (by rw [<-HKK.out];exact hrk)] at this;exact this
    (with_reducible refine(zdW HF1.out (HT.out _ (HB1.out _ HB.out)) HV.out HX.out (by omega) (by omega)).mono ?_)
    rintro eo w4 ⟨rfl,hb⟩
    have HB:=lh9 (zaa HB.out hb)
    have HL2:Hid (∀l,r+1<=l->l<k->z<((ld.getD l 0:Nat):Int)):=λl h1 h2=>absurd h2 (by omega)
    clear hb HV HX HF HF1 HLA HO
    have hd2:decide ((r:Int)>=(k:Int))=true:=decide_eq_true (by omega)
    have hd2':decide (k<=r)=true:=decide_eq_true (by omega)
    go_wp2
    go_roundg (n - r)
    case measure=>omega
    case rel=>exact⟨r+1,z,by omega,by omega,by go_num,rfl,HL2,HB.out⟩
  ·have hd1:decide ((r:Int)<(n:Int))=false:=decide_eq_false (by omega)
   go_wp2_with fail
   refine(zbu A n c (m:Int) _).mono ?_
   rintro eo w2 ⟨rfl,hb⟩
   have HB:=lh9 (zaa HB.out hb)
   clear hb p0 p1
   obtain⟨p0,p1⟩:=(HK1.out _ HB.out).c2
   have hd2:decide ((k:Int)<=(n:Int))=true:=decide_eq_true (by omega)
   go_wp2_with fail
   refine(zbu A n c (m:Int) _).mono ?_
   rintro eo w3 ⟨rfl,hb⟩
   have HB:=lh9 (HB1.out _ (zaa HB.out hb))
   clear hb p0 p1
   go_wp2
   go_ret
   exact⟨rfl,HB.out⟩
end
theorem zbP.up {K K':Nat}{M:List (List Rat)}(h:zbP K M)(e:K<=K'):zbP K' M:=⟨λrow hr=>(h.q row hr).up e,λrow hr x hx=>(h.x row hr x hx).up e⟩
theorem znG {r:Rat}{M:List (List Rat)}(i j:Nat):atM (zcO r M) i j=r*atM M i j:=by
 unfold atM zcO
 rw [List.getD_eq_getElem?_getD (l:=List.map _ _),List.getD_eq_getElem?_getD (l:=M),List.getElem?_map]
 cases M[i]? with
 |none=>exact(Rat.mul_zero r).symm
 |some row=>exact zel j
theorem zhh {n m:Nat}{M:List (List Rat)}(h:zaW M n m):RF n m (atM M) (zaJ m M).ld (atM (zcG m M)):=by
 have e:atM (zcG m M)=λi j=>(zaJ m M).p⁻¹*atM (zaJ m M).S i j:=by
  funext i j;exact znG i j
 rw [e]
 refine RF.of_elim (zcM h) λi hi=>⟨zaK (M.getD i []),zjc (by decide+kernel),λj hj=>zjV h hi j⟩
theorem RF.congr {n m:Nat}{M M' R:Nat->Nat->Rat}{ld:List Nat}(h:RF n m M ld R)(e:∀i,i<n->∀j,j<m->M i j=M' i j):RF n m M' ld R:=
 ⟨h.len,h.up,h.lt,h.piv,h.zero,h.fore,λi hi j hj=>by
  rw [<-e i hi j hj,h.sum i hi j hj]
  exact zau λl hl=>by rw [e i hi _ (h.lt l hl)],λl hl=>by
  obtain⟨y,hy⟩:=h.span l hl
  exact⟨y,λj hj=>(hy j hj).trans (zau λi hi=>by rw [e i hi j hj])⟩⟩
theorem zaW.extA {M M':List (List Rat)}{n m:Nat}(h:zaW M n m)(k:zaW M' n m)(e:∀i,i<n->∀j,j<m->atM M i j=atM M' i j):M=M':=by
 rw [<-h.eq,<-k.eq]
 exact znK λr c hr hc=>e r hr c hc
theorem RF.in1 {n m:Nat}{M R:Nat->Nat->Rat}{ld:List Nat}(h:RF n m M ld R){i:Nat}(hi:i<n):Sp n m M (R i):=by
 by_cases hl:i<ld.length
 ·exact h.span i hl
 ·exact Sp.zero.congr λj hj=>h.zero i (by omega) hi j hj
theorem RF.in2 {n m:Nat}{M R:Nat->Nat->Rat}{ld:List Nat}(h:RF n m M ld R){i:Nat}(hi:i<n):Sp n m R (M i):=
 (Sp.sum (u:=R) (λl=>M i (ld.getD l 0)) (q:=ld.length) λl hl=>Sp.row (by have:=h.len;omega)).congr λj hj=>h.sum i hi j hj
theorem zjN {n m:Nat}{M:List (List Rat)}(h:zaW M n m):(zaJ m (zcG m M)).ld=(zaJ m M).ld/\zcG m (zcG m M)=zcG m M:=by
 have hd:=zde h
 have h1:=zhh h
 have h2:=zhh hd
 obtain⟨e1,e2⟩:=h1.one h2 (λi hi=>h1.in1 hi) (λi hi=>h1.in2 hi)
 refine⟨e1.symm,zaW.extA (zde hd) hd λi hi j hj=>?_⟩
 by_cases hl:i<(zaJ m M).ld.length
 ·exact(e2 i hl j hj).symm
 ·rw [h1.zero i (by omega) hi j hj,h2.zero i (by rw [<-e1];omega) hi j hj]
theorem red_turn {n m:Nat}{M:List (List Rat)}(h:zaW M n m):(zaJ n (ziW n m M)).ld.length=(zaJ m M).ld.length:=
 zpl (zhh h) ((zhh (M:=ziW n m M) (zeo _ _ _)).congr λi hi j hj=>zos hi hj)
theorem red_shap {n m:Nat}{M:List (List Rat)}(h:zaW M n m):Shap n m (zcG m M) (zaJ m M).ld:=by
 have hr:=zhh h
 have hd:=zde h
 have hlen:=hr.len
 refine⟨hr.len,hr.lt,hr.up,λr hrn=>?_,λl hl=>?_,λl hl i hi hne=>?_⟩
 ·have hrow:((zcG m M).getD r []).length=m:=hd.row hrn
  by_cases hl:r<(zaJ m M).ld.length
  ·rw [if_pos hl]
   refine zjw (by rw [hrow];exact hr.lt r hl) (λj hj=>hr.fore r hl j hj) ?_
   have:=hr.piv r hl r hrn
   rw [if_pos rfl] at this
   show atM (zcG m M) r _≠0
   rw [this];decide+kernel
  ·rw [if_neg hl]
   exact zhp λj hj=>hr.zero r (by omega) hrn j (by omega)
 ·have:=hr.piv l hl l (by omega)
  rw [if_pos rfl] at this
  exact this
 ·have:=hr.piv l hl i hi
  rw [if_neg hne] at this
  exact this
def zeP (M R:List (List Rat))(ld:List Nat)(r k:Nat):List Rat:=(List.range k).foldl (λx l=>zeZ x (-atM M r (ld.getD l 0)) (R.getD l [])) (M.getD r [])
theorem zeE (M R:List (List Rat))(ld:List Nat)(r k:Nat):zeP M R ld r (k+1)=zeZ (zeP M R ld r k) (-atM M r (ld.getD k 0)) (R.getD k []):=by
 unfold zeP;rw [List.range_succ,List.foldl_append];rfl
theorem zhb {M R:List (List Rat)}{ld:List Nat}{n m r:Nat}(h:zaW M n m)(hR:zaW R n m)(hr:r<n):∀k,k<=n->(zeP M R ld r k).length=m
 |0,_=>h.row hr
 |k+1,hk=>by rw [zeE];exact addT_len (zhb h hR hr k (by omega)) (hR.row (by omega))
theorem zlH {M R:List (List Rat)}{ld:List Nat}{n m r j:Nat}(h:zaW M n m)(hR:zaW R n m)(hr:r<n)(hj:j<m):∀k,k<=n->(zeP M R ld r k).getD j 0=atM M r j - zaE k λl=>atM M r (ld.getD l 0)*atM R l j
 |0,_=>by show atM M r j=atM M r j - 0;grind
 |k+1,hk=>by
   rw [zeE,zlg (by rw [zhb h hR hr k (by omega)];exact hj) (by rw [hR.row (by omega)];exact hj),zlH h hR hr hj k (by omega),zaP]
   show _+ -atM M r (ld.getD k 0)*atM R k j=_
   grind
theorem zlI {M R:List (List Rat)}{ld:List Nat}{n m r K L:Nat}(h:zaW M n m)(hR:zaW R n m)(hr:r<n)(z:zaA K M)(zR:zaA L R)(hlt:∀l,l<ld.length->ld.getD l 0<m):∀k,k<=n->k<=ld.length->zat (K+k*(K+L+1)) (zeP M R ld r k)
 |0,_,_=>(z.row (by rw [h.rows];exact hr)).up (by omega)
 |k+1,hk,hk2=>by
   rw [zeE]
   refine((zlI h hR hr z zR hlt k (by omega) (by omega)).addT (z.at_ h hr (hlt k (by omega))).neg (zR.row (by rw [hR.rows];omega))).up ?_
   rw [Nat.succ_mul];omega
theorem zoZ {M:List (List Rat)}{n m r:Nat}(h:zaW M n m)(hr:r<n):zcU (zeP M (zcG m M) (zaJ m M).ld r (zaJ m M).ld.length)<0:=by
 have hrf:=zhh h
 refine(zmQ _).2 λx hx=>?_
 obtain⟨j,hj,e⟩:=List.mem_iff_getElem.1 hx
 have hj2:=hj
 rw [zhb h (zde h) hr _ hrf.len] at hj2
 have:=zlH h (zde h) hr (ld:=(zaJ m M).ld) hj2 _ hrf.len
 rw [List.getD_eq_getElem?_getD,List.getElem?_eq_getElem hj,<-hrf.sum r hr j hj2] at this
 rw [<-e]
 refine(show _=_ from this).trans ?_
 grind
