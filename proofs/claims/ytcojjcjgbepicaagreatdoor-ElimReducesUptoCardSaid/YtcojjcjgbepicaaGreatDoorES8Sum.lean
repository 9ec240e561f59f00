/- What this claim leans on. -/
import Derived.Test.YtcojjcjgbepicaaGreatDoorEJ8Add
import Derived.Test.YtcojjcjgbepicaaGreatDoorEJ8Mul
import Derived.Test.YtcojjcjgbepicaaGreatDoorEJ8Ord
namespace Go.Proofs.YtcojjcjgbepicaaGreatDoor
open Go Go.RowKit
set_option maxHeartbeats 16000000
set_option maxRecDepth 100000
set_option linter.unusedVariables false
set_option linter.unusedSimpArgs false
structure zib (w:World)(A:oA9)(n c:Nat)(rs:List Rat):Prop where
 len:rs.length=n
 fits:n<=c
 most:c<=9223372036854775807
 num:∀i,i<n->∃(ad:Addr) (b:Bool) (B:oA9) (m d:Nat) (E:oA9) (u v:Nat),A=some ad/\ad.block<w.heap.size/\w.cell? (ad.add (i*3))=some (.bool b)/\w.cell? (ad.add (i*3+1))=some (.slice B m d)/\w.cell? (ad.add (i*3+2))=some (.slice E u v)/\zai w (rs.getD i 0) b B m d E u v
theorem zib.below {w w':World}{A:oA9}{n c:Nat}{rs:List Rat}(h:zib w A n c rs)(hb:Below w.heap.size w w'):zib w' A n c rs:=
 ⟨h.len,h.fits,h.most,λi hi=>by
  obtain⟨ad,b,B,m,d,E,u,v,e,h1,h2,h3,h4,h5⟩:=h.num i hi
  exact⟨ad,b,B,m,d,E,u,v,e,Nat.lt_of_lt_of_le h1 hb.size,zac hb h2,zac hb h3,zac hb h4,h5.below hb⟩⟩
def zhJ (rs:List Rat):Rat:=rs.foldl (λa b=>a+b) 0
theorem zpE (rs:List Rat)(r:Rat):zhJ (rs++[r])=zhJ rs+r:=by unfold zhJ;rw [List.foldl_append];rfl
theorem zpF (rs:List Rat)(k:Nat)(h:k<rs.length):zhJ (rs.take (k+1))=zhJ (rs.take k)+rs.getD k 0:=by
 rw [List.take_succ_eq_append_getElem h,zpE,List.getD_eq_getElem?_getD,List.getElem?_eq_getElem h]
 rfl
theorem znv {w:World}{r:Rat}{b:Bool}{A E:oA9}{n c k f g:Nat}{t:TypeId}{p:Bool}{q q2:oA9}{r1 s r2 s2:Nat}(h:zai w r b A n c E k f)(kd:Blk w g t #[.bool p,.slice q r1 s,.slice q2 r2 s2])(x y z:Value):
  zai (((w.setCell ⟨g,0,none⟩ x).setCell ⟨g,1,none⟩ y).setCell ⟨g,2,none⟩ z) r b A n c E k f:=zbt h kd (NoU.s3 _ _ _ _ _ _ _) (zdM _ _ _ _ _)
theorem blk_far3 {w:World}{g g':Nat}{t:TypeId}{cs:Array Value}(h:Blk w g t cs)(hne:g≠g')(x y z:Value):Blk (((w.setCell ⟨g',0,none⟩ x).setCell ⟨g',1,none⟩ y).setCell ⟨g',2,none⟩ z) g t cs:=((h.far (p:=⟨g',0,none⟩) hne x).far (p:=⟨g',1,none⟩) hne y).far (p:=⟨g',2,none⟩) hne z
theorem cell_q1 {w:World}{ad:Addr}{k:Nat}{v:Value}(h:w.cell? (ad.add (k+1))=some v):w.cell? ⟨(ad.add k).block,(ad.add k).off+1,none⟩=some v:=by
 rw [<-Go.Deep.add_add] at h
 exact h
theorem cell_q2 {w:World}{ad:Addr}{k:Nat}{v:Value}(h:w.cell? (ad.add (k+2))=some v):w.cell? ⟨(ad.add k).block,(ad.add k).off+2,none⟩=some v:=by
 rw [<-Go.Deep.add_add] at h
 exact h
theorem rat_sum (rs:List Rat)(A:oA9)(n c K:Nat)(w:World)(hT:zaj w)(h:zib w A n c rs)(hn:n<=1073741824)(hK:K<=67108864)(he:∀i,i<n->SzQ K (rs.getD i 0))(hs:∀k,k<=n->SzQ K (zhJ (rs.take k))):
  Calls Tryz.prog 106 #[.slice A n c] w (zaH w (zhJ rs)):=by
 have HTB:=lh9 (λw' (h:Below w.heap.size w w')=>hT.on h)
 have HN:=lh9 (λw' (hb:Below w.heap.size w w')=>h.below hb)
 have HS:=lh9 hs
 have HE:=lh9 he
 have HSU:=lh9 (λk (hk:k<n)=>zpF rs k (by rw [h.len];exact hk))
 have HF:Hid (zhJ (rs.take n)=zhJ rs):=by
  show _=_
  rw [List.take_of_length_le (by rw [h.len];exact Nat.le_refl _)]
 clear h hs he hT
 go_enter Tryz.func106,Tryz.ntmps106
 go_wp2_with fail
 obtain⟨hB,hk1,hp,b5⟩:=zbz w 53 53 #[.bool false,.slice none 0 0,.slice none 0 0] #[.bool false,.slice none 0 0,.slice none 0 0]
 generalize hV:(w.alloc (.cells #[.bool false,.slice none 0 0,.slice none 0 0] 53)).alloc (.cells #[.bool false,.slice none 0 0,.slice none 0 0] 53)=V1 at*
 clear hV b5
 obtain⟨gp,hgp⟩:∃g,w.heap.size+1=g:=⟨_,rfl⟩
 rw [hgp] at hp⊢
 have hgw:w.heap.size<gp:=by omega
 go_loopg [9] (n+1) (λg ix wr=>∃(k:Nat) (b:Bool) (Ap:oA9) (np cp:Nat) (Ep:oA9) (kp fp:Nat),k<=n/\n<g+k/\ix=.int .i64 k/\zai wr (zhJ (rs.take k)) b Ap np cp Ep kp fp/\Blk wr gp 53 #[.bool b,.slice Ap np cp,.slice Ep kp fp]/\Below w.heap.size w wr/\Blk wr w.heap.size 53 #[.bool false,.slice none 0 0,.slice none 0 0])
 case atStart=>exact⟨0,false,none,0,0,none,0,0,Nat.zero_le _,by omega,rfl,zfp _,hp,hB,hk1⟩
 case round=>
  clear hp hB hk1 hgp
  obtain⟨k,b,Ap,np,cp,Ep,kp,fp,hkn,hg,rfl,hw,hp,hB,hk1⟩:=hrel
  by_cases hlt:k<n
  ·obtain⟨ad,b1,B1,m1,d1,E1,u1,v1,rfl,hadb,hc0,hc1,hc2,hx⟩:=(HN.out _ hB).num k hlt
   have HM:=lh9 (λw' (hb:Below wr.heap.size wr w')=>zkI (zhJ (rs.take k)) (rs.getD k 0) b Ap np cp Ep kp fp b1 B1 m1 d1 E1 u1 v1 w' (HTB.out _ (zaa hB hb)) (hw.below hb) (hx.below hb) (SzQ.fit (HS.out k hkn) hw hK) (SzQ.fit (HE.out k hlt) hx hK))
   have hc1:=cell_q1 hc1
   have hc2:=cell_q2 hc2
   have i1:(0:Int)<=(k:Int):=by omega
   have i2:(k:Int)<(n:Int):=by omega
   obtain⟨p0,p1,p2⟩:=hp.c3
   obtain⟨st,d2,d3⟩:=zaw wr 53 #[.bool b1,.slice B1 m1 d1,.slice E1 u1 v1]
   obtain⟨q0,q1,q2⟩:=d2.c3
   have p3:=zac st p0
   have p4:=zac st p1
   have p5:=zac st p2
   have HM2:=lh9 (HM.out _ st)
   have HB1:=lh9 (zaa hB st)
   have HP1:=lh9 (zab st hp)
   have HK2:=lh9 (zab st hk1)
   clear hw hx hB hp hk1 HM st d2 d3
   go_wp2_with fail
   refine HM2.out.mono ?_
   rintro e w3 ⟨b3,A3,n3,c3,E3,k3,f3,rfl,hw3,hb⟩
   rw [<-HSU.out k hlt] at hw3
   have hB3:=zaa HB1.out hb
   have hp3:=zab hb HP1.out
   have hk3:=zab hb HK2.out
   obtain⟨sc0,sf0,sc1,sf1,sc2,sf2⟩:=st3 hp3 (.bool b3) (.slice A3 n3 c3)
   have hw4:=znv hw3 hp3 (.bool b3) (.slice A3 n3 c3) (.slice E3 k3 f3)
   have hB4:=bl3 (.bool b3) (.slice A3 n3 c3) (.slice E3 k3 f3) (by show w.heap.size<=gp;omega) hB3
   have hp4:=sn3 hp3 (.bool b3) (.slice A3 n3 c3) (.slice E3 k3 f3)
   have hk4:=blk_far3 hk3 (by show w.heap.size≠gp;omega) (.bool b3) (.slice A3 n3 c3) (.slice E3 k3 f3)
   clear hb hB3 hp3 hk3 hw3 HM2 HB1 HP1 HK2 hc0 hc1 hc2 p0 p1 p2 p3 p4 p5 q0 q1 q2
   go_wp2
   go_roundg (n - k)
   case measure=>omega
   case rel=>exact⟨k+1,b3,A3,n3,c3,E3,k3,f3,by omega,by omega,by go_num,hw4,hp4,hB4,hk4⟩
  ·have hkn:k=n:=by omega
   subst hkn
   rw [HF.out] at hw
   obtain⟨p0,p1,p2⟩:=hp.c3
   obtain⟨sc0,sf0,sc1,sf1,sc2,sf2⟩:=st3 hk1 (.bool b) (.slice Ap np cp)
   obtain⟨r0,r1,r2⟩:=(sn3 hk1 (.bool b) (.slice Ap np cp) (.slice Ep kp fp)).c3
   have HG:=lh9 (gq3 hw hk1 hB (Nat.le_refl _))
   clear hw hp hk1 hB
   go_wp2
   refine bodyPost_ret (v:=.agg #[.bool b,.slice Ap np cp,.slice Ep kp fp]) (by simp [results,Tryz.results106,go_sem,r0,r1,r2]) rfl ?_
   exact HG.out
section
variable {K K':Nat}{x y:Rat}{b b':Bool}{A A':oA9}{n n' c c':Nat}{E E':oA9}{k k' f f':Nat}{w:World}
theorem q_add (hT:zaj w)(h:zai w x b A n c E k f)(h':zai w y b' A' n' c' E' k' f')(z:SzQ K x)(z':SzQ K' y)(hK:K<=67108864:=by omega)(hK':K'<=67108864:=by omega):
  Calls Tryz.prog 104 #[.agg #[.bool b,.slice A n c,.slice E k f],.agg #[.bool b',.slice A' n' c',.slice E' k' f']] w (zaH w (x+y)):=zkI x y b A n c E k f b' A' n' c' E' k' f' w hT h h' (z.fit h hK) (z'.fit h' hK')
theorem zfU (hT:zaj w)(h:zai w x b A n c E k f)(h':zai w y b' A' n' c' E' k' f')(z:SzQ K x)(z':SzQ K' y)(hK:K<=67108864:=by omega)(hK':K'<=67108864:=by omega):
  Calls Tryz.prog 56 #[.agg #[.bool b,.slice A n c,.slice E k f],.agg #[.bool b',.slice A' n' c',.slice E' k' f']] w (zaH w (x*y)):=zom x y b A n c E k f b' A' n' c' E' k' f' w hT h h' (z.fit h hK) (z'.fit h' hK')
theorem q_cmp (hT:zaj w)(h:zai w x b A n c E k f)(h':zai w y b' A' n' c' E' k' f')(z:SzQ K x)(z':SzQ K' y)(hK:K<=67108864:=by omega)(hK':K'<=67108864:=by omega):
  Calls Tryz.prog 164 #[.agg #[.bool b,.slice A n c,.slice E k f],.agg #[.bool b',.slice A' n' c',.slice E' k' f']] w (zcb w (zgc x y)):=zol x y b A n c E k f b' A' n' c' E' k' f' w hT h h' (z.fit h hK) (z'.fit h' hK')
theorem q_same {t:Bool}(e:decide (x=y)=t)(hT:zaj w)(h:zai w x b A n c E k f)(h':zai w y b' A' n' c' E' k' f')(z:SzQ K x)(z':SzQ K' y)(hK:K<=67108864:=by omega)(hK':K'<=67108864:=by omega):
  Calls Tryz.prog 55 #[.agg #[.bool b,.slice A n c,.slice E k f],.agg #[.bool b',.slice A' n' c',.slice E' k' f']] w (λe w'=>e=.returned (.bool t)/\Below w.heap.size w w'):=zav e (zlY x y b A n c E k f b' A' n' c' E' k' f' w hT h h' (z.fit h hK) (z'.fit h' hK'))
theorem zkE {t:Bool}(e:decide (x=0)=t)(hT:zaj w)(h:zai w x b A n c E k f)(z:SzQ K x)(hK:K<=67108864:=by omega):
  Calls Tryz.prog 24 #[.agg #[.bool b,.slice A n c,.slice E k f]] w (λe w'=>e=.returned (.bool t)/\Below w.heap.size w w'):=zav e (zaT x b A n c E k f w hT h (z.fit h hK))
end
theorem en_addt:∀(args:Array Value) (w':World),Sem.run Tryz.prog (callFunc 103 args) w'=.ok (.enter 103 args) w':=Go.Proofs.enters_of Tryz.func103 (by kernel_rfl) rfl
theorem zaC.rats {w:World}{A:oA9}{n c:Nat}{xs:List Rat}(h:zaC w A n c xs):zib w A n c xs:=⟨h.len,h.fits,h.most,λi hi=>h.at_ hi 0⟩
theorem sum_is (rs:List Rat):zhJ rs=zdw rs:=rfl
theorem q_sum {K n c:Nat}{A:oA9}{xs:List Rat}{w:World}(hT:zaj w)(h:zaC w A n c xs)(hx:zat K xs)(hn:n<=1073741824)(hK:1+n*(K+1)<=67108864):
  Calls Tryz.prog 106 #[.slice A n c] w (zaH w (zdw xs)):=by
 have hl:=h.len
 have e:=sum_is xs
 rw [<-e]
 refine rat_sum xs A n c (1+n*(K+1)) w hT h.rats hn hK (λi hi=>(hx.at_ (by omega)).up ?_) (λk hk=>?_)
 ·have:K+1<=n*(K+1):=Nat.le_mul_of_pos_left _ (by omega)
  omega
 ·rw [sum_is]
  exact take_sz hx hl k hk
theorem zmn {w:World}{g:Nat}{t:TypeId}{x:Rat}{b:Bool}{A:oA9}{n c:Nat}{E:oA9}{k f:Nat}(h:Blk w g t #[.bool b,.slice A n c,.slice E k f])(hx:zai w x b A n c E k f):zaC w (some ⟨g,0,none⟩) 1 1 [x]:=
 ⟨rfl,Nat.le_refl _,by decide,λi y hi=>by
  have h0:i=0:=by
   have:=(List.getElem?_eq_some_iff.1 hi).1
   simpa using this
  subst h0
  obtain rfl:x=y:=by simpa using hi
  exact⟨_,b,A,n,c,E,k,f,rfl,h.lt,by rw [zaO];exact h.cell 0,by rw [zaO];exact h.cell 1,by rw [zaO];exact h.cell 2,hx⟩⟩
def zaE (k:Nat)(f:Nat->Rat):Rat:=zdw ((List.range k).map f)
theorem zhi (f:Nat->Rat):zaE 0 f=0:=rfl
theorem znI (rs:List Rat)(r:Rat):zdw (rs++[r])=zdw rs+r:=by
 unfold zdw
 rw [List.foldl_append]
 rfl
theorem zaP (k:Nat)(f:Nat->Rat):zaE (k+1) f=zaE k f+f k:=by
 unfold zaE
 rw [List.range_succ,List.map_append,List.map_cons,List.map_nil,znI]
theorem zau {k:Nat}{f g:Nat->Rat}(h:∀i,i<k->f i=g i):zaE k f=zaE k g:=by
 unfold zaE
 congr 1
 exact List.map_congr_left λi hi=>h i (List.mem_range.1 hi)
theorem zcv {k:Nat}{f:Nat->Rat}(h:∀i,i<k->f i=0):zaE k f=0:=by
 induction k with
 |zero=>rfl
 |succ k ih=>rw [zaP,ih (λi hi=>h i (by omega)),h k (by omega),Rat.add_zero]
theorem zmz (a b c d:Rat):(a+b)+(c+d)=(a+c)+(b+d):=by
 rw [Rat.add_assoc,Rat.add_assoc,<-Rat.add_assoc b c d,<-Rat.add_assoc c b d,Rat.add_comm b c]
theorem zft (k:Nat)(f g:Nat->Rat):zaE k (λi=>f i+g i)=zaE k f+zaE k g:=by
 induction k with
 |zero=>exact(Rat.add_zero 0).symm
 |succ k ih=>rw [zaP,zaP,zaP,ih,zmz]
theorem zaV (k:Nat)(a:Rat)(f:Nat->Rat):a*zaE k f=zaE k (λi=>a*f i):=by
 induction k with
 |zero=>exact Rat.mul_zero a
 |succ k ih=>rw [zaP,zaP,Rat.mul_add,ih]
theorem zfJ (n k:Nat)(f:Nat->Nat->Rat):zaE n (λi=>zaE k (λj=>f i j))=zaE k (λj=>zaE n (λi=>f i j)):=by
 induction n with
 |zero=>exact(zcv λi _=>rfl).symm
 |succ n ih=>
   rw [zaP,ih,<-zft]
   exact zau λj _=>(zaP n λi=>f i j).symm
def zdy (n m:Nat)(f:Nat->Nat->Rat):List (List Rat):=(List.range n).map λr=>(List.range m).map (f r)
def atM (M:List (List Rat))(r c:Nat):Rat:=(M.getD r []).getD c 0
structure zaW (M:List (List Rat))(n m:Nat):Prop where
 rows:M.length=n
 cols:∀L ∈ M,L.length=m
theorem zaW.row {M:List (List Rat)}{n m:Nat}(h:zaW M n m){r:Nat}(hr:r<n):(M.getD r []).length=m:=by
 have hl:=h.rows
 rw [List.getD_eq_getElem?_getD,List.getElem?_eq_getElem (by omega)]
 exact h.cols _ (List.getElem_mem _)
theorem zeo (n m:Nat)(f:Nat->Nat->Rat):zaW (zdy n m f) n m:=⟨by simp [zdy],λL hL=>by
 obtain⟨r,_,rfl⟩:=List.mem_map.1 hL
 simp⟩
theorem tabN_row {n m:Nat}{f:Nat->Nat->Rat}{r:Nat}(hr:r<n):(zdy n m f).getD r []=(List.range m).map (f r):=by
 unfold zdy
 rw [List.getD_eq_getElem?_getD,List.getElem?_map,List.getElem?_range hr]
 rfl
theorem znt {m c:Nat}{f:Nat->Rat}(hc:c<m):((List.range m).map f).getD c 0=f c:=by
 rw [List.getD_eq_getElem?_getD,List.getElem?_map,List.getElem?_range hc]
 rfl
theorem zos {n m:Nat}{f:Nat->Nat->Rat}{r c:Nat}(hr:r<n)(hc:c<m):atM (zdy n m f) r c=f r c:=by
 unfold atM
 rw [tabN_row hr,znt hc]
theorem znK {n m:Nat}{f g:Nat->Nat->Rat}(h:∀r c,r<n->c<m->f r c=g r c):zdy n m f=zdy n m g:=by
 unfold zdy
 exact List.map_congr_left λr hr=>List.map_congr_left λc hc=>h r c (List.mem_range.1 hr) (List.mem_range.1 hc)
theorem znu {m:Nat}{xs:List Rat}(h:xs.length=m):(List.range m).map (λc=>xs.getD c 0)=xs:=by
 subst h
 apply List.ext_getElem
 ·simp
 ·intro i h1 h2
  rw [List.getElem_map,List.getElem_range,List.getD_eq_getElem?_getD,List.getElem?_eq_getElem h2]
  rfl
theorem zaW.eq {M:List (List Rat)}{n m:Nat}(h:zaW M n m):zdy n m (atM M)=M:=by
 have hl:=h.rows
 unfold zdy
 apply List.ext_getElem
 ·simp [hl]
 ·intro i h1 h2
  rw [List.getElem_map,List.getElem_range]
  have e:M.getD i []=M[i]:=by rw [List.getD_eq_getElem?_getD,List.getElem?_eq_getElem h2];rfl
  show(List.range m).map (λc=>(M.getD i []).getD c 0)=M[i]
  rw [e]
  exact znu (h.cols _ (List.getElem_mem h2))
def colM (n:Nat)(M:List (List Rat))(c:Nat):List Rat:=(List.range n).map λr=>atM M r c
theorem colM_len (n:Nat)(M:List (List Rat))(c:Nat):(colM n M c).length=n:=by simp [colM]
def ziW (n m:Nat)(M:List (List Rat)):List (List Rat):=zdy m n λr c=>atM M c r
def mulM (n k m:Nat)(A B:List (List Rat)):List (List Rat):=zdy n m λr c=>dotQ (A.getD r []) (colM k B c)
theorem dims_nil (m:Nat):zaW [] 0 m:=⟨rfl,λL hL=>by cases hL⟩
def sg (c:Nat):Rat:=if c%2=0 then 1 else -1
def skp (c j:Nat):Nat:=if j<c then j else j+1
def mnr (M:Nat->Nat->Rat)(c:Nat):Nat->Nat->Rat:=λi j=>M (i+1) (skp c j)
def zbD:Nat->(Nat->Nat->Rat)->Rat
 |0,_=>1
 |n+1,M=>zaE (n+1) λc=>sg c*M 0 c*zbD n (mnr M c)
theorem zcs (n:Nat)(M:Nat->Nat->Rat):zbD (n+1) M=zaE (n+1) λc=>sg c*M 0 c*zbD n (mnr M c):=rfl
theorem sg_succ (c:Nat):sg (c+1)= -sg c:=by
 unfold sg
 by_cases h:c%2=0
 ·rw [if_neg (by omega),if_pos h]
 ·rw [if_pos (by omega),if_neg h,Rat.neg_neg]
theorem skp_lt {c j n:Nat}(hj:j<n):skp c j<n+1:=by unfold skp;split<;>omega
theorem skp_ne (c j:Nat):skp c j≠c:=by unfold skp;split<;>omega
theorem zcK:∀{n:Nat} {M N:Nat->Nat->Rat},(∀i,i<n->∀j,j<n->M i j=N i j)->zbD n M=zbD n N
 |0,_,_,_=>rfl
 |n+1,M,N,h=>by
   rw [zcs,zcs]
   refine zau λc hc=>?_
   rw [h 0 (by omega) c hc,zcK (n:=n) (M:=mnr M c) (N:=mnr N c) λi hi j hj=>h (i+1) (by omega) _ (skp_lt hj)]
def zbF (M:Nat->Nat->Rat)(k:Nat)(v:Nat->Rat):Nat->Nat->Rat:=λi j=>if j=k then v i else M i j
theorem zcd (M:Nat->Nat->Rat)(k:Nat)(v:Nat->Rat)(i:Nat):zbF M k v i k=v i:=if_pos rfl
theorem zce (M:Nat->Nat->Rat){k j:Nat}(h:j≠k)(v:Nat->Rat)(i:Nat):zbF M k v i j=M i j:=if_neg h
theorem zfH (M:Nat->Nat->Rat)(k:Nat):zbF M k (λi=>M i k)=M:=by
 funext i j;unfold zbF;split
 ·next h=>rw [h]
 ·rfl
theorem zdZ (M:Nat->Nat->Rat)(k:Nat)(v:Nat->Rat):mnr (zbF M k v) k=mnr M k:=by
 funext i j;show(if skp k j=k then _ else _)=_;rw [if_neg (skp_ne k j)];rfl
def uns (c k:Nat):Nat:=if k<c then k else k - 1
theorem zkR {c k j:Nat}(h:k≠c):skp c j=k↔j=uns c k:=by unfold skp uns;split<;>split<;>omega
theorem uns_lt {c k n:Nat}(h:k≠c)(hk:k<n+1)(hc:c<n+1):uns c k<n:=by unfold uns;split<;>omega
theorem ziD {M:Nat->Nat->Rat}{c k:Nat}(h:k≠c)(v:Nat->Rat):mnr (zbF M k v) c=zbF (mnr M c) (uns c k) (λi=>v (i+1)):=by
 funext i j
 show(if skp c j=k then _ else _)=(if j=uns c k then _ else _)
 by_cases e:j=uns c k
 ·rw [if_pos e,if_pos ((zkR h).2 e)]
 ·rw [if_neg e,if_neg λq=>e ((zkR h).1 q)];rfl
theorem zdD:∀{n:Nat} (M:Nat->Nat->Rat) {k:Nat} (_:k<n) (a b:Rat) (u v:Nat->Rat),zbD n (zbF M k λi=>a*u i+b*v i)=a*zbD n (zbF M k u)+b*zbD n (zbF M k v)
 |n+1,M,k,hk,a,b,u,v=>by
   rw [zcs,zcs,zcs,zaV,zaV,<-zft]
   refine zau λc hc=>?_
   by_cases h:k=c
   ·subst h
    rw [zdZ,zdZ,zdZ]
    simp only [zbF,if_true]
    grind
   ·rw [ziD h,ziD h,ziD h,zdD (mnr M c) (uns_lt h hk hc) a b (λi=>u (i+1)) (λi=>v (i+1))]
    simp only [zbF,if_neg (λe:c=k=>h e.symm)]
    grind
theorem zgd {n:Nat}(M:Nat->Nat->Rat){k:Nat}(hk:k<n)(a:Rat)(u:Nat->Rat):zbD n (zbF M k λi=>a*u i)=a*zbD n (zbF M k u):=by
 have h:=zdD M hk a 0 u u
 rw [Rat.zero_mul,Rat.add_zero] at h
 rw [<-h]
 congr 2
 funext i
 grind
theorem zgw {n:Nat}(M:Nat->Nat->Rat){k:Nat}(hk:k<n)(f:Nat->Rat)(u:Nat->Nat->Rat):∀q,zbD n (zbF M k λi=>zaE q λl=>f l*u l i)=zaE q λl=>f l*zbD n (zbF M k (u l))
 |0=>by
   have:=zgd M hk 0 (λ_=>0)
   have e:(λi:Nat=>(0:Rat)*(λ_=>0) i)=λ_=>0:=by funext i;exact Rat.zero_mul _
   rw [e] at this
   show zbD n (zbF M k λi=>0)=0
   rw [this,Rat.zero_mul]
 |q+1=>by
   rw [zaP,<-zgw M hk f u q]
   have:=zdD M hk 1 (f q) (λi=>zaE q λl=>f l*u l i) (u q)
   rw [Rat.one_mul] at this
   rw [<-this]
   congr 2
   funext i
   rw [zaP,Rat.one_mul]
theorem zmh {f:Nat->Rat}{k:Nat}(h2:f k+f (k+1)=0):∀{n:Nat},k+1<n->(∀c,c<n->c≠k->c≠k+1->f c=0)->zaE n f=0
 |n+1,hk,h1=>by
   rw [zaP]
   by_cases e:n=k+1
   ·subst e
    rw [zaP,zcv λi hi=>h1 i (by omega) (by omega) (by omega),Rat.zero_add,h2]
   ·rw [zmh h2 (n:=n) (by omega) (λc hc=>h1 c (by omega)),h1 n (by omega) (by omega) (by omega),Rat.add_zero]
theorem zdE:∀{n:Nat} {M:Nat->Nat->Rat} {k:Nat},k+1<n->(∀i,i<n->M i k=M i (k+1))->zbD n M=0
 |n+1,M,k,hk,h=>by
   rw [zcs]
   have h1:∀c,c<n+1->c≠k->c≠k+1->sg c*M 0 c*zbD n (mnr M c)=0:=λc hc e1 e2=>by
    have:zbD n (mnr M c)=0:=by
     refine zdE (k:=uns c k) ?_ λi hi=>?_
     ·unfold uns;split<;>omega
     ·have a1:skp c (uns c k)=k:=(zkR (Ne.symm e1)).2 rfl
      have a2:skp c (uns c k+1)=k+1:=by unfold skp uns;split<;>split<;>omega
      show M (i+1) (skp c (uns c k))=M (i+1) (skp c (uns c k+1))
      rw [a1,a2];exact h (i+1) (by omega)
    rw [this,Rat.mul_zero]
   have h2:sg k*M 0 k*zbD n (mnr M k)+sg (k+1)*M 0 (k+1)*zbD n (mnr M (k+1))=0:=by
    have:zbD n (mnr M k)=zbD n (mnr M (k+1)):=zcK λi hi j hj=>by
     show M (i+1) (skp k j)=M (i+1) (skp (k+1) j)
     by_cases e:j=k
     ·subst e
      have a1:skp j j=j+1:=by unfold skp;split<;>omega
      have a2:skp (j+1) j=j:=by unfold skp;split<;>omega
      rw [a1,a2];exact(h (i+1) (by omega)).symm
     ·have:skp k j=skp (k+1) j:=by unfold skp;split<;>split<;>omega
      rw [this]
    rw [this,sg_succ,<-h 0 (by omega)]
    grind
   exact zmh (f:=λc=>sg c*M 0 c*zbD n (mnr M c)) h2 (by omega) h1
theorem zoG {n:Nat}(M:Nat->Nat->Rat){k:Nat}(hk:k+1<n)(u v:Nat->Rat):zbD n (zbF (zbF M k u) (k+1) v)= -zbD n (zbF (zbF M k v) (k+1) u):=by
 have z:∀x:Nat->Rat,zbD n (zbF (zbF M k x) (k+1) x)=0:=λx=>zdE hk λi _=>by
  rw [zce _ (by omega),zcd,zcd]
 have sw:∀x y:Nat->Rat,zbF (zbF M k x) (k+1) y=zbF (zbF M (k+1) y) k x:=λx y=>by
  funext i j;simp only [zbF];by_cases a:j=k+1
  ·rw [if_pos a,if_neg (by omega),if_pos a]
  ·rw [if_neg a];by_cases b:j=k
   ·rw [if_pos b,if_pos b]
   ·rw [if_neg b,if_neg b,if_neg a]
 have e1:=z (λi=>1*u i+1*v i)
 rw [zdD _ hk,sw,sw,zdD _ (by omega:k<n),zdD _ (by omega:k<n),<-sw,<-sw,<-sw,<-sw,z,z] at e1
 grind
theorem zgX:∀(d:Nat) {n:Nat} {M:Nat->Nat->Rat} {k:Nat},k+1+d<n->(∀i,i<n->M i k=M i (k+1+d))->zbD n M=0
 |0,n,M,k,hk,h=>zdE hk h
 |d+1,n,M,k,hk,h=>by
   have e:M=zbF (zbF M (k+1+d) λi=>M i (k+1+d)) (k+1+d+1) λi=>M i (k+1+d+1):=by rw [zfH,zfH]
   rw [e,zoG M (by omega),zgX d (k:=k) (by omega),Rat.neg_zero]
   intro i hi
   rw [zce _ (by omega),zce _ (by omega),zce _ (by omega),zcd]
   exact h i hi
theorem zij {n:Nat}{M:Nat->Nat->Rat}{k l:Nat}(hk:k<n)(hl:l<n)(hne:k≠l):zbD n (zbF M k λi=>M i l)=0:=by
 rcases Nat.lt_or_ge k l with h|h
 ·obtain⟨d,rfl⟩:∃d,l=k+1+d:=⟨l - k - 1,by omega⟩
  exact zgX d (by omega) λi _=>by rw [zcd,zce _ (by omega)]
 ·obtain⟨d,rfl⟩:∃d,k=l+1+d:=⟨k - l - 1,by omega⟩
  exact zgX d (k:=l) (by omega) λi _=>by rw [zce _ (by omega),zcd]
theorem zhn:∀(n:Nat) {M:Nat->Nat->Rat},(∀i,i<n->M i n=0)->zbD (n+1) M=M n n*zbD n M
 |0,M,_=>by
   show zaE 1 _=_
   rw [zaP,zhi]
   show 0+1*M 0 0*1=M 0 0*1
   grind
 |n+1,M,h=>by
   rw [zcs,zaP,h 0 (by omega),Rat.mul_zero,Rat.zero_mul,Rat.add_zero,zcs n,zaV]
   refine zau λc hc=>?_
   rw [zhn n (M:=mnr M c) (λi hi=>by
    show M (i+1) (skp c n)=0
    rw [show skp c n=n+1 by unfold skp;split<;>omega];exact h (i+1) (by omega))]
   have:mnr M c n n=M (n+1) (n+1):=by show M (n+1) (skp c n)=_;rw [show skp c n=n+1 by unfold skp;split<;>omega]
   rw [this]
   grind
theorem zoa {T:World->Prop}{M:Nat->Prop}(hTb:∀w w',T w->Below w.heap.size w w'->T w')(IC:IntC T)(QC:RatC T M)(p q:Int)(r:Rat)(K:Nat)(bx:Bool)(Bx:oA9)(mx dx:Nat)(Ex:oA9)(ux vx:Nat)(w:World)(hK:K<=16777216)(hz:SzQ K r)(h:zai w r bx Bx mx dx Ex ux vx)(hT:T w)(hp1: -9223372036854775808<=p)(hp2:p<=9223372036854775807)(hq1: -9223372036854775808<=q)(hq2:q<=9223372036854775807)(hq0:q≠0)(he:r=Rat.divInt p q):
  Calls Tryz.prog 52 #[.agg #[.bool bx,.slice Bx mx dx,.slice Ex ux vx],.int .i64 p,.int .i64 q] w λe w'=>e=.returned (.bool true)/\Below w.heap.size w w':=by
 have HIC:=lh9 IC
 have HQC:=lh9 QC
 have HT:=lh9 (λw' (hb:Below w.heap.size w w')=>hTb w w' hT hb)
 have HE:=lh9 he
 have HZx:=lh9 hz
 have HNx:=lh9 h
 clear IC QC hT he hz h
 go_enter Tryz.func52,Tryz.ntmps52
 have hB:=Below.refl w.heap.size w
 obtain⟨bx1,bx2,bz⟩:=zaw w 53 #[.bool bx,.slice Bx mx dx,.slice Ex ux vx]
 have hB:=zaa hB bx1
 have HNx:=lh9 (HNx.out.below bx1)
 obtain⟨g1,e1,i1⟩:=bx2.c3
 clear bx1 bx2 bz
 go_wp2_with fail
 generalize w.alloc (.cells #[.bool bx,.slice Bx mx dx,.slice Ex ux vx] 53)=W1 at*
 have HZ2:Hid (SzQ (1) (Rat.divInt p q)):=SzQ.made (K:=1) (by show Int.natAbs p<18446744073709551616^1;have e1: -9223372036854775808<=p:=hp1;have e2:p<=9223372036854775807:=hp2;omega) (by show Int.natAbs q<18446744073709551616^1;have e1: -9223372036854775808<=q:=hq1;have e2:q<=9223372036854775807:=hq2;omega) (by decide)
 (with_reducible refine(HQC.out.of p q _ (HT.out _ hB) hp1 hp2 hq1 hq2 hq0).mono ?_)
 rintro e wc2 ⟨b2,B2,m2,d2,E2,u2,v2,rfl,hw2,hb⟩
 have hB:=zaa hB hb
 have HNx:=lh9 (HNx.out.below hb)
 have g1:=zac hb g1
 have e1:=zac hb e1
 have i1:=zac hb i1
 have HN2:=lh9 hw2
 clear hb hw2
 obtain⟨bx1,bx2,bz⟩:=zaw wc2 53 #[.bool b2,.slice B2 m2 d2,.slice E2 u2 v2]
 have hB:=zaa hB bx1
 have HNx:=lh9 (HNx.out.below bx1)
 have g1:=zac bx1 g1
 have e1:=zac bx1 e1
 have i1:=zac bx1 i1
 have HN2:=lh9 (HN2.out.below bx1)
 obtain⟨g3,e3,i3⟩:=bx2.c3
 clear bx1 bx2 bz
 go_wp2_with fail
 generalize wc2.alloc (.cells #[.bool b2,.slice B2 m2 d2,.slice E2 u2 v2] 53)=W3 at*
 generalize wc2.heap.size=q3 at*
 have C0:=lh9 (λw' (h:Below W3.heap.size W3 w')=>zav (decide_eq_true HE.out) (HQC.out.same (r) (Rat.divInt p q) bx b2 Bx B2 mx m2 dx d2 Ex E2 ux u2 vx v2 w' (HT.out _ (zaa hB h)) (HNx.out.below h) (HN2.out.below h) (szq HZx HNx.out) (szq HZ2 HN2.out)))
 have HZ4:Hid (Sz (K) (r.num).natAbs):=SzQ.num HZx.out
 have C1:=lh9 (λw' (h:Below W3.heap.size W3 w')=>HQC.out.num (r) bx Bx mx dx Ex ux vx w' (HT.out _ (zaa hB h)) (HNx.out.below h) (szq HZx HNx.out))
 have HZ5:Hid (Sz (1) ((Rat.divInt p q).num).natAbs):=SzQ.num HZ2.out
 have C2:=lh9 (λw' (h:Below W3.heap.size W3 w')=>HQC.out.num (Rat.divInt p q) b2 B2 m2 d2 E2 u2 v2 w' (HT.out _ (zaa hB h)) (HN2.out.below h) (szq HZ2 HN2.out))
 have C3:=lh9 (λw' (h:Below W3.heap.size W3 w') b4 B4 m4 d4 (hw4:zaB w' (r.num) b4 B4 m4 d4) b5 B5 m5 d5 (hw5:zaB w' ((Rat.divInt p q).num) b5 B5 m5 d5)=>icmp_eq (by rw [HE.out]) (HIC.out.cmp (r.num) ((Rat.divInt p q).num) b4 b5 B4 B5 m4 m5 d4 d5 w' (HT.out _ (zaa hB h)) hw4 hw5 (by have:=Sz.words HZ4.out hw4.words;omega) (by have:=Sz.words HZ5.out hw5.words;omega)))
 have HZ6:Hid (Sz (K) (r.den)):=SzQ.den HZx.out
 have C4:=lh9 (λw' (h:Below W3.heap.size W3 w')=>HQC.out.den (r) bx Bx mx dx Ex ux vx w' (HT.out _ (zaa hB h)) (HNx.out.below h) (szq HZx HNx.out))
 have HZ7:Hid (Sz (1) ((Rat.divInt p q).den)):=SzQ.den HZ2.out
 have C5:=lh9 (λw' (h:Below W3.heap.size W3 w')=>HQC.out.den (Rat.divInt p q) b2 B2 m2 d2 E2 u2 v2 w' (HT.out _ (zaa hB h)) (HN2.out.below h) (szq HZ2 HN2.out))
 have C6:=lh9 (λw' (h:Below W3.heap.size W3 w') B6 m6 d6 (hw6:zad w' (r.den) B6 m6 d6) B7 m7 d7 (hw7:zad w' ((Rat.divInt p q).den) B7 m7 d7)=>cmpEq (x:=r.den) (y:=(Rat.divInt p q).den) (by rw [HE.out]) hw6 hw7 (szw HZ6 hw6) (szw HZ7 hw7))
 have hBw:=(Below.refl W3.heap.size W3).drew
 refine rg (csc g1 (csc e1 (csc i1 (csc g3 (csc e3 (csc i3 csn)))))) (λhHeld=>?_)
 refine tk 0 ?_
 refine tk 1 ?_
 refine tk 2 ?_
 refine tk 3 ?_
 refine rc 4 (λK hK=>?_)
 go_simp
 go_at_call 55;(with_reducible refine(C0.out _ hBw).mono ?_);rintro e wa4 ⟨rfl,hb⟩;have hBw:=zaa hBw hb;refine hK.out _ _ (Cs.below hHeld hb) (λhHeld=>?_);clear hK K hb
 try simp only [sb9]
 refine tk 5 ?_
 refine tk 6 ?_
 refine tk 7 ?_
 refine tk 9 ?_
 refine rc 8 (λK hK=>?_)
 go_simp
 go_at_call 87;(with_reducible refine(C1.out _ hBw).mono ?_);rintro e wa5 ⟨b4,B4,m4,d4,rfl,hw4,hb⟩;have hBw:=zaa hBw hb;refine hK.out _ _ (Cs.below hHeld hb) (λhHeld=>?_);clear hK K hb
 try simp only [sb9]
 refine rc 10 (λK hK=>?_)
 go_simp
 go_at_call 87;(with_reducible refine(C2.out _ hBw).mono ?_);rintro e wa6 ⟨b5,B5,m5,d5,rfl,hw5,hb⟩;have hBw:=zaa hBw hb;have hw4:=hw4.below hb;refine hK.out _ _ (Cs.below hHeld hb) (λhHeld=>?_);clear hK K hb
 try simp only [sb9]
 refine rc 11 (λK hK=>?_)
 go_simp
 go_at_call 117;(with_reducible refine(C3.out _ hBw _ _ _ _ hw4 _ _ _ _ hw5).mono ?_);rintro e wa7 ⟨rfl,hb⟩;have hBw:=zaa hBw hb;have hw4:=hw4.below hb;have hw5:=hw5.below hb;refine hK.out _ _ (Cs.below hHeld hb) (λhHeld=>?_);clear hK K hb
 try simp only [sb9]
 refine tk 12 ?_
 refine tk 13 ?_
 refine tk 14 ?_
 refine tk 15 ?_
 refine tk 17 ?_
 refine rc 16 (λK hK=>?_)
 go_simp
 go_at_call 89;(with_reducible refine(C4.out _ hBw).mono ?_);rintro e wa8 ⟨B6,m6,d6,rfl,hw6,hb⟩;have hBw:=zaa hBw hb;have hw4:=hw4.below hb;have hw5:=hw5.below hb;refine hK.out _ _ (Cs.below hHeld hb) (λhHeld=>?_);clear hK K hb
 try simp only [sb9]
 refine rc 18 (λK hK=>?_)
 go_simp
 go_at_call 89;(with_reducible refine(C5.out _ hBw).mono ?_);rintro e wa9 ⟨B7,m7,d7,rfl,hw7,hb⟩;have hBw:=zaa hBw hb;have hw4:=hw4.below hb;have hw5:=hw5.below hb;have hw6:=hw6.below hb;refine hK.out _ _ (Cs.below hHeld hb) (λhHeld=>?_);clear hK K hb
 try simp only [sb9]
 refine rc 19 (λK hK=>?_)
 go_simp
 go_at_call 118;(with_reducible refine(C6.out _ hBw _ _ _ hw6 _ _ _ hw7).mono ?_);rintro e wa10 ⟨rfl,hb⟩;have hBw:=zaa hBw hb;have hw4:=hw4.below hb;have hw5:=hw5.below hb;have hw6:=hw6.below hb;have hw7:=hw7.below hb;refine hK.out _ _ (Cs.below hHeld hb) (λhHeld=>?_);clear hK K hb
 try simp only [sb9]
 refine tk 20 ?_
 refine tk 21 ?_
 refine tk 22 ?_
 refine rdn ?_
 have hB:=zaa hB hBw
 have g1:=zac hBw g1
 have e1:=zac hBw e1
 have i1:=zac hBw i1
 have g3:=zac hBw g3
 have e3:=zac hBw e3
 have i3:=zac hBw i3
 clear hBw hHeld hw4 hw5 hw6 hw7 C0 C1 C2 C3 C4 C5 C6
 go_wp2
 go_ret
 exact⟨by first|rfl|simp,hB⟩
