/- What this claim leans on. -/
import Derived.Test.YtghpdeciaaagnaaGreatDoorIEDetT
namespace Go.Proofs.YtghpdeciaaagnaaGreatDoor
open Go Go.RowKit
set_option maxHeartbeats 16000000
set_option maxRecDepth 100000
set_option linter.unusedVariables false
set_option linter.unusedSimpArgs false
section
variable {A:oA9}{n c m K:Nat}{MM:List (List Rat)}{w:World}
theorem znd {V:oA9}{cv p:Nat}{xs:List Rat}(hp:m+1=p)(hT:zai w)(h:zaR w A n c m MM)(z:zax K MM)(hv:zaz w V n cv xs)(zx:zau K xs)(hm9:m<64)(hK:K+2<=67108864:=by omega):
  Calls Tryz.prog 86 #[.agg #[.slice A n c,.int .i64 (m:Int)],.slice V n cv] w (zcU w n p (zdh n p λa b=>if b=m then xs.getD a 0 else atM MM a b)):=by
 obtain⟨hn,hm⟩:=And.intro h.hn h.hm
 obtain⟨bx,by0,by1,by2,bz⟩:=zbL w 28 61 28 #[.slice A n c,.int .i64 (m:Int)] #[.slice V n cv] #[.slice none 0 0,.int .i64 0]
 have HK0:=lh9 by0
 have HK1:=lh9 by1
 have HK2:=lh9 by2
 have HB:=lh9 bx
 have HR:=λW=>lh9 (zbd A n c (m:Int) W)
 have HMY:∀(W:World) (z9:Int),z9=(p:Int)->Hid (Calls Tryz.prog 93 #[.int .i64 (n:Int),.int .i64 z9] W (λe w'=>e=.returned (.bool true)/\W=w')):=λW z9 hz9=>by subst hz9;exact zoC (zjC hn (show p<=64 by omega)) W
 have e0:((n:Int) !=(n:Int))=false:=by simp
 have hlv:=hv.len
 have HM:∀W,Below w.heap.size w W->Blk W (w.heap.size) 28 #[.slice A n c,.int .i64 (m:Int)]->Blk W (w.heap.size+1) 61 #[.slice V n cv]->∀z9:Int,z9=((p:Nat):Int)->Hid (Calls Tryz.prog 94 #[.int .i64 ((n:Nat):Int),.int .i64 z9,.func (.func 152) #[] #[.pointer (some ⟨w.heap.size,0,none⟩),.pointer (some ⟨w.heap.size+1,0,none⟩)]] W (zcm W (n) (p) (zdh n p λa b=>if b=m then xs.getD a 0 else atM MM a b))):=λW hW k0 k1 z9 hz9=>by
  subst hz9
  have hh:=h.keep hW
  exact zhm (K:=K) (λa b=>if b=m then xs.getD a 0 else atM MM a b) 152 #[.pointer (some ⟨w.heap.size,0,none⟩),.pointer (some ⟨w.heap.size+1,0,none⟩)] n p W (hT.on hW) ⟨zmM,λa b ha hb9 w' hb=>znU (hh.keep hb) (zaa hb k0) (zaa hb k1) ((hv.keep hW).keep hb) ha (by omega)⟩ (λa b ha hb9=>by split;exact zx.at_ (by omega);exact z.at_ h.dims ha (by omega)) hn (by omega) hK
 have HP:=lh9 hp
 clear bx bz by0 by1 by2 hT h z hv zx hlv hp
 obtain⟨p0_0,p0_1⟩:=HK0.out.c2
 have p1_0:=HK1.out.c1
 go_enter Tryz.func86,Tryz.ntmps86
 go_wp2_with fail
 generalize ((w.alloc (.cells #[.slice A n c,.int .i64 (m:Int)] 28)).alloc (.cells #[.slice V n cv] 61)).alloc (.cells #[.slice none 0 0,.int .i64 0] 28)=W1 at*
 refine rg (csc p0_0 (csc p0_1 (csc p1_0 csn))) (λhHeld=>?_)
 clear p0_0 p0_1 p1_0
 have hbd:=(Below.refl W1.heap.size W1).drew
 have HB:=lh9 (zab HB.out hbd)
 have HK0:=lh9 (zaa hbd HK0.out)
 have HK1:=lh9 (zaa hbd HK1.out)
 have HK2:=lh9 (zaa hbd HK2.out)
 clear hbd
 generalize W1.drew=D at*
 refine tk 0 ?_
 refine tk 1 ?_
 refine tk 2 ?_
 refine rc 3 (λKK hK9=>?_)
 go_simp
 refine((HR _).out).mono ?_
 rintro e w2 ⟨rfl,hb⟩
 refine hK9.out _ _ (Cs.below hHeld hb) (λhHeld=>?_)
 clear hK9 KK
 have HB:=lh9 (zab HB.out hb)
 have HK0:=lh9 (zaa hb HK0.out)
 have HK1:=lh9 (zaa hb HK1.out)
 have HK2:=lh9 (zaa hb HK2.out)
 clear hb
 refine tk 4 ?_
 refine tk 5 ?_
 refine tk 6 ?_
 refine tk 8 ?_
 refine tk 9 ?_
 refine tk 10 ?_
 refine rc 7 (λKK hK9=>?_)
 go_simp
 refine((HR _).out).mono ?_
 rintro e w2 ⟨rfl,hb⟩
 refine hK9.out _ _ (Cs.below hHeld hb) (λhHeld=>?_)
 clear hK9 KK
 have HB:=lh9 (zab HB.out hb)
 have HK0:=lh9 (zaa hb HK0.out)
 have HK1:=lh9 (zaa hb HK1.out)
 have HK2:=lh9 (zaa hb HK2.out)
 clear hb
 refine rc 11 (λKK hK9=>?_)
 go_simp
 refine((HMY _ _ (by have h0:=HP.out;first|omega|(have e:IntKind.i64.wrap ((m:Int)+1)=(m:Int)+1:=IntWalk.i64_in _ (by omega);omega))).out).mono ?_
 rintro e w2 ⟨rfl,rfl⟩
 refine hK9.out _ _ hHeld (λhHeld=>?_)
 clear hK9 KK
 refine tk 12 ?_
 refine tk 13 ?_
 refine rdn ?_
 clear hHeld
 obtain⟨p0_0,p0_1⟩:=HK0.out.c2
 have p1_0:=HK1.out.c1
 go_wp2_with fail
 refine rg (csc p0_0 (csc p0_1 csn)) (λhHeld=>?_)
 clear p0_0 p0_1 p1_0
 have hbd:=(Below.refl w2.heap.size w2).drew
 have HB:=lh9 (zab HB.out hbd)
 have HK0:=lh9 (zaa hbd HK0.out)
 have HK1:=lh9 (zaa hbd HK1.out)
 have HK2:=lh9 (zaa hbd HK2.out)
 clear hbd
 generalize w2.drew=D at*
 refine tk 0 ?_
 refine tk 2 ?_
 refine tk 3 ?_
 refine tk 4 ?_
 refine tk 5 ?_
 refine rc 1 (λKK hK9=>?_)
 go_simp
 refine((HR _).out).mono ?_
 rintro e w2 ⟨rfl,hb⟩
 refine hK9.out _ _ (Cs.below hHeld hb) (λhHeld=>?_)
 clear hK9 KK
 have HB:=lh9 (zab HB.out hb)
 have HK0:=lh9 (zaa hb HK0.out)
 have HK1:=lh9 (zaa hb HK1.out)
 have HK2:=lh9 (zaa hb HK2.out)
 clear hb
 refine rc 6 (λKK hK9=>?_)
 go_simp
 refine(HM _ HB.out HK0.out HK1.out _ (by have h0:=HP.out;first|omega|(have e:IntKind.i64.wrap ((m:Int)+1)=(m:Int)+1:=IntWalk.i64_in _ (by omega);omega))).out.mono ?_
 rintro e w3 ⟨A3,c3,rfl,hm3,hf3,hb⟩
 refine hK9.out _ _ (Cs.below hHeld hb) (λhHeld=>?_)
 clear hK9 KK
 have hk3:=zaa hb HK2.out
 obtain⟨sc0,sf0,sc1,sf1⟩:=st2 hk3 (.slice A3 (n) c3)
 obtain⟨r0,r1⟩:=(sn2 hk3 (.slice A3 (n) c3) (.int .i64 ((p:Nat):Int))).c2
 have HG:=lh9 (gmb2 hm3 (λad e=>Nat.lt_of_lt_of_le HK2.out.lt (hf3 ad e)) hk3 (zab HB.out hb) (by omega))
 clear hb hk3 hm3 hf3 HB HM HK0 HK1 HK2
 refine rc 7 (λKK hK9=>?_)
 go_simp
 refine hK9.out _ _ ?_ (λhHeld=>?_)
 ·refine Cs.far hHeld (zgM _ _ _ _) ⟨?_,?_,trivial⟩<;>(show w.heap.size≠w.heap.size+1+1;omega)
 clear hK9 KK
 refine tk 8 ?_
 refine rdn ?_
 clear hHeld sc0 sf0 sc1 sf1
 go_wp2
 refine bodyPost_ret (v:=.tuple #[.agg #[.slice A3 (n) c3,.int .i64 ((p:Nat):Int)],.bool true]) (by simp [results,Tryz.results86,go_sem,r0,r1]) rfl ?_
 exact HG.out
end
theorem zie {n:Nat}(M:Nat->Nat->Rat){k:Nat}(hk:k<n)(a:Rat)(u:Nat->Rat):zaF n (zbi M k λj=>a*u j)=a*zaF n (zbi M k u):=by
 have h:=zez M hk a 0 u u
 have e:(λj=>a*u j+0*u j)=λj=>a*u j:=by funext j;grind
 rw [e] at h
 rw [h];grind
theorem zlf (M:Nat->Nat->Rat)(k:Nat):zbi M k (M k)=M:=by
 funext i j
 unfold zbi
 by_cases e:i=k
 ·rw [if_pos e,e]
 ·rw [if_neg e]
theorem srel_det {n:Nat}{a0 a:Nat->Nat->Rat}(h:ziv n a0 a):zaF n a=zaF n a0:=by
 induction h with
 |refl=>rfl
 | @sw a r q h1 h2 h3 ih=>
   rw [<-ih]
   have e1:swp r q a=zbi (zbi a r (a q)) q λj=> -1*a r j:=by
    funext i j
    unfold swp zbi
    by_cases p1:i=r
    ·rw [if_pos p1,if_neg (by omega),if_pos p1]
    ·rw [if_neg p1]
     by_cases p2:i=q
     ·rw [if_pos p2,if_pos p2];grind
     ·rw [if_neg p2,if_neg p2,if_neg p1]
   have e2:zbi (zbi a r (a r)) q (a q)=a:=by rw [zlf,zlf]
   have e3:=rswap (n:=n) (k:=r) (l:=q) (by omega) h3 (by omega) (λN hN=>zeA h2 h3 hN) a (a q) (a r)
   rw [e2] at e3
   rw [e1,zie _ h3,e3]
   grind
theorem zjM {m:Nat}{X:List (List Rat)}(h:zaN X m m):∀t,t<=m->zaF m (λi j=>if i<t then zaD (X.getD i [])*atM X i j else atM X i j)=zbo (X.take t)*zaF m (atM X)
 |0,_=>by
   have e:(λi j=>if i<0 then zaD (X.getD i [])*atM X i j else atM X i j)=atM X:=by
    funext i j;rw [if_neg (by omega)]
   rw [e];show _=(1:Rat)*_;rw [Rat.one_mul]
 |t+1,ht=>by
   have hl:=h.rows
   have ih:=zjM h t (by omega)
   rw [zfQ (by omega)]
   have e1:(λi j=>if i<t+1 then zaD (X.getD i [])*atM X i j else atM X i j)=zbi (λi j=>if i<t then zaD (X.getD i [])*atM X i j else atM X i j) t λj=>zaD (X.getD t [])*atM X t j:=by
    funext i j
    unfold zbi
    by_cases p:i=t
    ·rw [if_pos p,if_pos (by omega),p]
    ·rw [if_neg p]
     by_cases p2:i<t
     ·show _=if i<t then _ else _
      rw [if_pos p2,if_pos (by omega)]
     ·show _=if i<t then _ else _
      rw [if_neg p2,if_neg (by omega)]
   have e2:zbi (λi j=>if i<t then zaD (X.getD i [])*atM X i j else atM X i j) t (λj=>atM X t j)=λi j=>if i<t then zaD (X.getD i [])*atM X i j else atM X i j:=by
    funext i j
    unfold zbi
    by_cases p:i=t
    ·rw [if_pos p,p,if_neg (by omega)]
    ·rw [if_neg p]
   rw [e1,zie _ (by omega),e2,ih]
   grind
theorem zro {m:Nat}{X:List (List Rat)}(h:zaN X m m):zaF m (atM (zbe X))=zbo X*zaF m (atM X):=by
 have e:=zjM h m (Nat.le_refl _)
 rw [List.take_of_length_le (by rw [h.rows];exact Nat.le_refl _)] at e
 rw [<-e]
 exact zaV λi hi j _=>by rw [if_pos hi];exact zeO h hi j
theorem zjg {m:Nat}{M:Nat->Nat->Rat}{v:Nat->Rat}{c:Nat}(hc:c<m)(hv:v c=1)(h:∀i,i<m->zaw m (λj=>M i j*v j)=0):zaF m M=0:=by
 have e1:=zfB M hc v (λl i=>M i l) m
 have e2:(zaw m λl=>v l*zaF m (zaQ M c λi=>M i l))=zaw m λl=>(if l=c then 1 else 0)*(v l*zaF m M):=zan λl hl=>by
  by_cases e:l=c
  ·rw [if_pos e,e,zeJ,Rat.one_mul]
  ·rw [if_neg e,zfb hc hl (Ne.symm e)];grind
 rw [e2,zdH hc (λl=>v l*zaF m M),hv,Rat.one_mul] at e1
 rw [<-e1,zaV (N:=zaQ M c λi=>0*(λ_=>(0:Rat)) i) λi hi j _=>?_,zfa M hc,Rat.zero_mul]
 by_cases e:j=c
 ·rw [e,zbk,zbk]
  show zaw m (λl=>v l*M i l)=0*0
  rw [zan (g:=λl=>M i l*v l) λl _=>Rat.mul_comm _ _,h i hi];grind
 ·rw [zbp _ e,zbp _ e]
theorem zmv {n m:Nat}{M R:Nat->Nat->Rat}{ld:List Nat}(h:RF n m M ld R)(hl:ld.length=m):∀l,l<m->ld.getD l 0=l:=λl hlm=>by
 have ge:∀l,l<m->l<=ld.getD l 0:=λl=>by
  induction l with
  |zero=>exact λ_=>Nat.zero_le _
  |succ l ih=>intro h2;have:=ih (by omega);have:=h.up l (l+1) (by omega) (by omega);omega
 have le:∀d l,l+d+1=m->ld.getD l 0<=l:=λd=>by
  induction d with
  |zero=>intro l h2;have:=h.lt l (by omega);omega
  |succ d ih=>intro l h2;have:=ih (l+1) (by omega);have:=h.up l (l+1) (by omega) (by omega);omega
 have:=ge l hlm
 have:=le (m - l - 1) l (by omega)
 omega
theorem zeZ {m:Nat}{X:List (List Rat)}(h:zaN X m m):zcZ m X=zaF m (atM X):=by
 have hr:=red_rf h
 unfold zcZ
 by_cases hl:(zbg m X).ld.length<m
 ·rw [if_pos hl]
  obtain⟨c,hc,hn⟩:=zih hl
  exact(zjg (v:=kerF (zbg m X).ld (atM (zfS m X)) c) hc (by rw [zkQ hn,if_pos rfl]) λi hi=>hr.ker hc hi).symm
 ·rw [if_neg hl]
  have hlm:(zbg m X).ld.length=m:=by have:=hr.len;omega
  obtain⟨a,hs,hi⟩:=(zcx h).inv
  have e1:(zbg m X).p=zaF m a:=by
   rw [hi.det,hlm]
   exact zaV λi _ j hj=>by rw [zmv hr hlm j hj]
  rw [e1,srel_det hs,zro h]
  have:=zjN X
  grind
theorem det_mul {m:Nat}{X Y:List (List Rat)}(h:zaN X m m)(k:zaN Y m m):zcZ m (zdh m m (zjF m (atM X) (atM Y)))=zcZ m X*zcZ m Y:=by
 rw [zeZ (zcq _ _ _),zeZ h,zeZ k,<-zmE]
 exact zaV λi hi j hj=>zfi hi hj
theorem det_turn {m:Nat}{X:List (List Rat)}(h:zaN X m m):zcZ m (zcW m m X)=zcZ m X:=by
 have e0:zaN (zcW m m X) m m:=zcq _ _ _
 rw [zeZ e0,zeZ h,<-zkE m (atM X)]
 exact zaV λi hi j hj=>zfi hi hj
theorem det_inj {n:Nat}{M:Nat->Nat->Rat}(h:zaF n M≠0){v:Nat->Rat}(hv:∀i,i<n->zaw n (λj=>M i j*v j)=0):∀j,j<n->v j=0:=λc hc=>by
 refine Classical.byContradiction λh0=>h (zjg (v:=λj=>(v c)⁻¹*v j) hc (by grind) λi hi=>?_)
 have e:zaw n (λj=>M i j*((v c)⁻¹*v j))=(v c)⁻¹*zaw n (λj=>M i j*v j):=by
  rw [zaK];exact zan λj _=>by grind
 rw [e,hv i hi,Rat.mul_zero]
def dl (i j:Nat):Rat:=if i=j then 1 else 0
theorem zmW {n:Nat}{X V:Nat->Nat->Rat}(h:∀i,i<n->∀j,j<n->zaw n (λl=>X i l*V l j)=dl i j):zaF n X*zaF n V=1:=by
 rw [<-zmE,zaV (M:=zjF n X V) (N:=zda) λi hi j hj=>h i hi j hj,zfA]
theorem inv_left {n:Nat}{X V:Nat->Nat->Rat}(h:∀i,i<n->∀j,j<n->zaw n (λl=>X i l*V l j)=dl i j):∀i,i<n->∀j,j<n->zaw n (λl=>V i l*X l j)=dl i j:=λi hi j hj=>by
 have hd:=zmW h
 have hV:zaF n (λa b=>V b a)≠0:=by rw [zkE];intro e;rw [e,Rat.mul_zero] at hd;exact absurd hd (by decide+kernel)
 have:=det_inj hV (v:=λj=>zaw n (λl=>V i l*X l j) - dl i j) (λq hq=>by
  have e1:zaw n (λj=>V j q*(zaw n (λl=>V i l*X l j) - dl i j))=zaw n (λj=>zaw n λl=>V i l*(X l j*V j q)) - zaw n (λj=>(if j=i then 1 else 0)*V j q):=by
   rw [<-znx]
   refine zan λj _=>?_
   have e2:zaw n (λl=>V i l*(X l j*V j q))=V j q*zaw n (λl=>V i l*X l j):=by rw [zaK];exact zan λl _=>by grind
   rw [e2]
   unfold dl
   by_cases e:i=j
   ·rw [if_pos e,if_pos e.symm];grind
   ·rw [if_neg e,if_neg (Ne.symm e)];grind
  rw [e1,zdH hi (λj=>V j q),zgn]
  have e3:zaw n (λl=>zaw n λj=>V i l*(X l j*V j q))=zaw n (λl=>(if l=q then 1 else 0)*V i l):=zan λl hl=>by
   rw [<-zaK,h l hl q hq]
   unfold dl
   rw [Rat.mul_comm]
  rw [e3,zdH hq (λl=>V i l)]
  grind) j hj
 grind
def zgm (n:Nat)(row:List Rat)(i:Nat):List Rat:=row++zec n i
def zdt (n:Nat)(X:List (List Rat))(r:Nat):List (List Rat):=X.mapIdx λi row=>if i<r then zgm n row i else row
def zcc (n:Nat)(X:List (List Rat)):List (List Rat):=zdt n X n
theorem zri (n i:Nat):(zec n i).length=n:=by unfold zec;simp
theorem unitL_at {n i j:Nat}(hj:j<n):(zec n i).getD j 0=if i=j then 1 else 0:=by
 unfold zec
 rw [List.getD_eq_getElem?_getD,List.getElem?_set]
 by_cases e:i=j
 ·rw [if_pos e,if_pos e,if_pos (by simp;omega)];rfl
 ·rw [if_neg e,if_neg e,List.getElem?_replicate,if_pos hj];rfl
theorem zgQ {n:Nat}{X:List (List Rat)}{r i:Nat}(hi:i<X.length):(zdt n X r).getD i []=if i<r then zgm n (X.getD i []) i else X.getD i []:=by
 unfold zdt
 rw [List.getD_eq_getElem?_getD,List.getElem?_mapIdx,List.getElem?_eq_getElem hi]
 show(if i<r then _ else _)=_
 rw [show X.getD i []=X[i] by rw [List.getD_eq_getElem?_getD,List.getElem?_eq_getElem hi];rfl]
theorem znv (n:Nat)(X:List (List Rat)):zdt n X 0=X:=by
 unfold zdt
 apply List.ext_getElem?
 intro i
 rw [List.getElem?_mapIdx]
 cases X[i]?<;>rfl
theorem zpa {n:Nat}{X:List (List Rat)}{r:Nat}(hr:r<X.length):(zdt n X r).set r (zgm n (X.getD r []) r)=zdt n X (r+1):=by
 apply List.ext_getElem?
 intro i
 unfold zdt
 rw [List.getElem?_mapIdx,List.getElem?_set]
 by_cases e:r=i
 ·subst e
  rw [if_pos rfl,if_pos (by rw [List.length_mapIdx];exact hr),List.getElem?_eq_getElem hr]
  dsimp only [Option.map_some]
  rw [if_pos (by omega),show X.getD r []=X[r] by rw [List.getD_eq_getElem?_getD,List.getElem?_eq_getElem hr];rfl]
 ·rw [if_neg e,List.getElem?_mapIdx]
  cases X[i]? with
  |none=>rfl
  |some row=>
    dsimp only [Option.map_some]
    by_cases e2:i<r
    ·rw [if_pos e2,if_pos (by omega)]
    ·rw [if_neg e2,if_neg (by omega)]
theorem zgP {n:Nat}{X:List (List Rat)}{r:Nat}:(zdt n X r).length=X.length:=by unfold zdt;rw [List.length_mapIdx]
theorem zds {n:Nat}{X:List (List Rat)}(h:zaN X n n):zaN (zcc n X) n (n+n):=⟨by unfold zcc;rw [zgP,h.rows],λL hL=>by
 obtain⟨i,hi,rfl⟩:=List.mem_iff_getElem.1 hL
 have hi2:i<X.length:=by have:=hi;unfold zcc at this;rw [zgP] at this;exact this
 have e:(zcc n X)[i]=(zcc n X).getD i []:=by rw [List.getD_eq_getElem?_getD,List.getElem?_eq_getElem hi];rfl
 rw [e]
 unfold zcc
 rw [zgQ hi2,if_pos (by rw [<-h.rows];exact hi2)]
 unfold zgm
 rw [List.length_append,zri,h.row (by rw [<-h.rows];exact hi2)]⟩
theorem zlg {n:Nat}{X:List (List Rat)}(h:zaN X n n){i:Nat}(hi:i<n):(zcc n X).getD i []=X.getD i []++zec n i:=by
 unfold zcc
 rw [zgQ (by rw [h.rows];exact hi),if_pos hi];rfl
theorem zjZ {n:Nat}{X:List (List Rat)}(h:zaN X n n){i j:Nat}(hi:i<n)(hj:j<n):atM (zcc n X) i j=atM X i j:=by
 unfold atM
 rw [zlg h hi,List.getD_eq_getElem?_getD,List.getElem?_append_left (by rw [h.row hi];exact hj),<-List.getD_eq_getElem?_getD]
theorem znt {n:Nat}{X:List (List Rat)}(h:zaN X n n){i j:Nat}(hi:i<n)(hj:j<n):atM (zcc n X) i (n+j)=dl i j:=by
 unfold atM
 rw [zlg h hi,List.getD_eq_getElem?_getD,List.getElem?_append_right (by rw [h.row hi];omega),h.row hi,show n+j - n=j by omega,<-List.getD_eq_getElem?_getD,unitL_at hj];rfl
theorem znu {n K:Nat}{X:List (List Rat)}(h:zax K X)(hK:1<=K):zax K (zcc n X):=λL hL x hx=>by
 unfold zcc zdt at hL
 obtain⟨i,hi,rfl⟩:=List.mem_mapIdx.1 hL
 split at hx
 ·unfold zgm at hx
  rcases List.mem_append.1 hx with hx|hx
  ·exact h _ (List.getElem_mem _) x hx
  ·unfold zec at hx
   rcases List.mem_or_eq_of_mem_set hx with hx|rfl
   ·rw [List.eq_of_mem_replicate hx];exact(LI.zero K).szq hK
   ·exact(LI.one.up hK).szq hK
 ·exact h _ (List.getElem_mem _) x hx
def zbA (n:Nat)(X:List (List Rat)):ESt:=zeD n (zbe (zcc n X))
theorem zfg {n:Nat}{X:List (List Rat)}(h:zaN X n n):EOk n (n+n) n (atM (zbe (zcc n X))) (zbA n X):=ziH (zfX (zds h)) (Nat.le_add_right n n)
theorem zpO {n:Nat}{X:List (List Rat)}(h:zaN X n n):∃R,RF n n (atM X) (zbA n X).ld R:=by
 obtain⟨hd,a,hs,hi⟩:=zfg h
 have hk:EOk n n n (atM (zbe (zcc n X))) ⟨zdh n n (atM (zbA n X).S),(zbA n X).ld,(zbA n X).p⟩:=by
  refine⟨zcq _ _ _,a,hs,zcK.congr (s:=atM (zbA n X).S) ?_ λi hi j hj=>zfi hi hj⟩
  exact⟨hi.len,Nat.le_refl _,hi.up,hi.lt,hi.ne,hi.piv,hi.low,hi.fore,λi h1 j h2=>hi.back i h1 j (by omega),hi.det⟩
 have hr:=RF.of_elim (a0:=atM (zbe (zcc n X))) (M:=atM X) hk λi hi=>⟨zaD ((zcc n X).getD i []),zfY (by decide+kernel),λj hj=>by rw [zeO (zds h) hi,zjZ h hi hj]⟩
 exact⟨_,hr⟩
theorem side_len {n:Nat}{X:List (List Rat)}(h:zaN X n n):(zbA n X).ld.length<=n:=by obtain⟨_,_,_,hi⟩:=zfg h;exact hi.len
def zfr (n:Nat)(X:List (List Rat)):List (List Rat):=(zcs (zbA n X).p⁻¹ (zbA n X).S).map (List.drop n)
theorem zkO {n:Nat}{X:List (List Rat)}(h:zaN X n n):zaN (zfr n X) n n:=by
 have hd:=zen (zfg h).dims (zbA n X).p⁻¹
 refine⟨by unfold zfr;rw [List.length_map];exact hd.rows,λL hL=>?_⟩
 unfold zfr at hL
 obtain⟨row,hr,rfl⟩:=List.mem_map.1 hL
 rw [List.length_drop,hd.cols row hr];omega
theorem drop_at {xs:List Rat}{n j:Nat}:(xs.drop n).getD j 0=xs.getD (n+j) 0:=by
 rw [List.getD_eq_getElem?_getD,List.getD_eq_getElem?_getD,List.getElem?_drop]
theorem invM_at {n:Nat}{X:List (List Rat)}(h:zaN X n n){i j:Nat}(hi:i<n):atM (zfr n X) i j=(zbA n X).p⁻¹*atM (zbA n X).S i (n+j):=by
 have hd:=zen (zfg h).dims (zbA n X).p⁻¹
 rw [<-zjX]
 unfold atM zfr
 rw [List.getD_eq_getElem?_getD (l:=List.map _ _),List.getElem?_map,zbE (d:=[]) (by rw [hd.rows];exact hi)]
 exact drop_at
theorem zka {n:Nat}{X:List (List Rat)}(h:zaN X n n)(hl:(zbA n X).ld.length<n):zaF n (atM X)=0:=by
 obtain⟨R,hr⟩:=zpO h
 obtain⟨c,hc,hn⟩:=zih hl
 exact zjg (v:=kerF (zbA n X).ld R c) hc (by rw [zkQ hn,if_pos rfl]) λi hi=>hr.ker hc hi
theorem zkb {n:Nat}{X:List (List Rat)}(h:zaN X n n)(hl:¬(zbA n X).ld.length<n):∀i,i<n->∀j,j<n->zaw n (λl=>atM X i l*atM (zfr n X) l j)=dl i j:=λi hi j hj=>by
 obtain⟨R,hr⟩:=zpO h
 have hlen:(zbA n X).ld.length=n:=by have:=side_len h;omega
 have hall:=zmv hr hlen
 obtain⟨hd,a,hs,hv⟩:=zfg h
 obtain⟨i',k1,e,k2,k3⟩:=hs.rows.2 i hi
 have hb:=hv.back i' k1 (n+j) (by omega)
 rw [hlen,if_neg (by omega),Rat.add_zero] at hb
 have hp:=hv.ne
 have ht:zaD ((zcc n X).getD i [])≠0:=zfY (by decide+kernel)
 have w1:∀q,q<n+n->a i' q=e*(zaD ((zcc n X).getD i [])*atM (zcc n X) i q):=λq hq=>by
  have:=k3 q
  rw [zeO (zds h) hi] at this
  rw [this];grind
 have e1:zaw n (λl=>a i' ((zbA n X).ld.getD l 0)*atM (zbA n X).S l (n+j))=e*zaD ((zcc n X).getD i [])*zaw n (λl=>atM X i l*atM (zbA n X).S l (n+j)):=by
  rw [zaK]
  exact zan λl hl=>by rw [hall l hl,w1 l (by omega),zjZ h hi hl];grind
 rw [e1,w1 _ (by omega),znt h hi hj] at hb
 have e2:zaw n (λl=>atM X i l*atM (zfr n X) l j)=(zbA n X).p⁻¹*zaw n (λl=>atM X i l*atM (zbA n X).S l (n+j)):=by
  rw [zaK]
  exact zan λl hl=>by rw [invM_at h hl];grind
 rw [e2]
 generalize zaw n (λl=>atM X i l*atM (zbA n X).S l (n+j))=x at*
 generalize zaD ((zcc n X).getD i [])=t at*
 generalize (zbA n X).p=p at*
 have he:e≠0:=by intro h;rw [h] at k2;exact absurd k2 (by decide+kernel)
 have e3:e*t≠0:=by grind
 have:(e*t)*(p*dl i j)=(e*t)*x:=by grind
 have:p*dl i j=x:=by grind
 grind
theorem zra {n:Nat}{X:List (List Rat)}(h:zaN X n n):(zbA n X).ld.length<n↔zaF n (atM X)=0:=by
 refine⟨zka h,λh0=>Classical.byContradiction λhl=>?_⟩
 have:=zmW (zkb h hl)
 rw [h0,Rat.zero_mul] at this
 exact absurd this (by decide+kernel)
theorem zpP {n K:Nat}{X:List (List Rat)}(h:zaN X n n)(hn:n<=64)(hW:zbS K (zcc n X)):zax ((67+65*K)+(67+65*K)) (zfr n X)/\SzQ (67+65*K) (zbA n X).p/\(zbA n X).p≠0/\zax (67+65*K) (zbA n X).S:=by
 have hok:=zfg h
 have ha:=hW.at_ (zds h)
 obtain⟨h1,h2⟩:=EOk.psz hok.inv hn ha
 have h3:=EOk.msz hok.dims hok.inv hn ha
 refine⟨λL hL=>?_,h1,h2,h3⟩
 unfold zfr at hL
 obtain⟨row,hr,rfl⟩:=List.mem_map.1 hL
 exact λx hx=>zle h1.inv h3 row hr x (List.mem_of_mem_drop hx)
