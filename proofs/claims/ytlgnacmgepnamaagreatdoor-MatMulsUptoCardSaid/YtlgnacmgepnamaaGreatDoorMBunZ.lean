/- What this claim leans on. -/
import Derived.Test.YtlgnacmgepnamaaGreatDoorMJ8Make
import Derived.Test.YtlgnacmgepnamaaGreatDoorMJ8Add
import Derived.Test.YtlgnacmgepnamaaGreatDoorMJ8Mul
import Derived.Test.YtlgnacmgepnamaaGreatDoorMJ8Ord
namespace Go.Proofs.YtlgnacmgepnamaaGreatDoor
open Go Go.RowKit
open Go.ChangeShapes Go.WideShapes Go.ChangeAt
set_option maxHeartbeats 16000000
set_option linter.unusedVariables false
namespace UA
set_option maxHeartbeats 16000000
theorem one_le {H:Type}(d:DataW H):1<=Rows.uptoBulk d:=by
 cases d with
 |lit l=>cases l<;>simp [Rows.uptoBulk]
 |nil=>simp [Rows.uptoBulk]
 |ptr d=>simp [Rows.uptoBulk]
 |slice elems spare=>simp [Rows.uptoBulk]
 |agg parts=>simp [Rows.uptoBulk]
 |iface t d=>simp [Rows.uptoBulk]
 |map entries=>simp [Rows.uptoBulk]
 |held h=>simp [Rows.uptoBulk]
theorem zjF {H:Type}(l:List (DataW H)):l.length<=Rows.uptoBulkAll l:=by
 induction l with
 |nil=>simp [Rows.uptoBulkAll]
 |cons x r ih=>have:=one_le x;simp only [Rows.uptoBulkAll,List.length_cons];omega
theorem slice_le {H:Type}(elems spare:List (DataW H)):elems.length+spare.length+1<=Rows.uptoBulk (.slice elems spare):=by
 have h1:=zjF elems
 have h2:=zjF spare
 simp only [Rows.uptoBulk]
 omega
end UA
open Go Go.RowKit
open Go.ChangeShapes Go.WideShapes Go.ChangeAt Go.Deep
set_option maxHeartbeats 16000000
set_option linter.unusedVariables false
open Go Go.RowKit
open Go.ChangeShapes Go.WideShapes Go.ChangeAt Go.Deep
set_option maxHeartbeats 16000000
set_option linter.unusedVariables false
open Go Go.RowKit
set_option maxHeartbeats 16000000
set_option maxRecDepth 100000
set_option linter.unusedVariables false
set_option linter.unusedSimpArgs false
structure zhN (w:World)(A:oA9)(n c:Nat)(rs:List Rat):Prop where
 len:rs.length=n
 fits:n<=c
 most:c<=9223372036854775807
 num:∀i,i<n->∃(ad:Addr) (b:Bool) (B:oA9) (m d:Nat) (E:oA9) (u v:Nat),A=some ad/\ad.block<w.heap.size/\w.cell? (ad.add (i*3))=some (.bool b)/\w.cell? (ad.add (i*3+1))=some (.slice B m d)/\w.cell? (ad.add (i*3+2))=some (.slice E u v)/\zan w (rs.getD i 0) b B m d E u v
theorem zhN.below {w w':World}{A:oA9}{n c:Nat}{rs:List Rat}(h:zhN w A n c rs)(hb:Below w.heap.size w w'):zhN w' A n c rs:=
 ⟨h.len,h.fits,h.most,λi hi=>by
  obtain⟨ad,b,B,m,d,E,u,v,e,h1,h2,h3,h4,h5⟩:=h.num i hi
  exact⟨ad,b,B,m,d,E,u,v,e,Nat.lt_of_lt_of_le h1 hb.size,zae hb h2,zae hb h3,zae hb h4,h5.below hb⟩⟩
def zhA (rs:List Rat):Rat:=rs.foldl (λa b=>a+b) 0
theorem zpO (rs:List Rat)(r:Rat):zhA (rs++[r])=zhA rs+r:=by unfold zhA;rw [List.foldl_append];rfl
theorem zjZ (rs:List Rat)(k:Nat)(h:k<rs.length):zhA (rs.take (k+1))=zhA (rs.take k)+rs.getD k 0:=by
 rw [List.take_succ_eq_append_getElem h,zpO,List.getD_eq_getElem?_getD,List.getElem?_eq_getElem h]
 rfl
theorem znx {w:World}{r:Rat}{b:Bool}{A E:oA9}{n c k f g:Nat}{t:TypeId}{p:Bool}{q q2:oA9}{r1 s r2 s2:Nat}(h:zan w r b A n c E k f)(kd:Blk w g t #[.bool p,.slice q r1 s,.slice q2 r2 s2])(x y z:Value):
  zan (((w.setCell ⟨g,0,none⟩ x).setCell ⟨g,1,none⟩ y).setCell ⟨g,2,none⟩ z) r b A n c E k f:=zib h kd (NoU.s3 _ _ _ _ _ _ _) (off3 _ _ _ _ _)
theorem zhR {w:World}{g g':Nat}{t:TypeId}{cs:Array Value}(h:Blk w g t cs)(hne:g≠g')(x y z:Value):Blk (((w.setCell ⟨g',0,none⟩ x).setCell ⟨g',1,none⟩ y).setCell ⟨g',2,none⟩ z) g t cs:=((h.far (p:=⟨g',0,none⟩) hne x).far (p:=⟨g',1,none⟩) hne y).far (p:=⟨g',2,none⟩) hne z
theorem cell_q1 {w:World}{ad:Addr}{k:Nat}{v:Value}(h:w.cell? (ad.add (k+1))=some v):w.cell? ⟨(ad.add k).block,(ad.add k).off+1,none⟩=some v:=by
 rw [<-Go.Deep.add_add] at h
 exact h
theorem cell_q2 {w:World}{ad:Addr}{k:Nat}{v:Value}(h:w.cell? (ad.add (k+2))=some v):w.cell? ⟨(ad.add k).block,(ad.add k).off+2,none⟩=some v:=by
 rw [<-Go.Deep.add_add] at h
 exact h
theorem rat_sum (rs:List Rat)(A:oA9)(n c K:Nat)(w:World)(hT:zao w)(h:zhN w A n c rs)(hn:n<=1073741824)(hK:K<=67108864)(he:∀i,i<n->SzQ K (rs.getD i 0))(hs:∀k,k<=n->SzQ K (zhA (rs.take k))):
  Calls Tryz.prog 64 #[.slice A n c] w (zaP w (zhA rs)):=by
 have HTB:=lh9 (λw' (h:Below w.heap.size w w')=>hT.on h)
 have HN:=lh9 (λw' (hb:Below w.heap.size w w')=>h.below hb)
 have HS:=lh9 hs
 have HE:=lh9 he
 have HSU:=lh9 (λk (hk:k<n)=>zjZ rs k (by rw [h.len];exact hk))
 have HF:Hid (zhA (rs.take n)=zhA rs):=by
  show _=_
  rw [List.take_of_length_le (by rw [h.len];exact Nat.le_refl _)]
 clear h hs he hT
 go_enter Tryz.func64,Tryz.ntmps64
 go_wp2_with fail
 obtain⟨hB,hk1,hp,b5⟩:=zbl w 48 48 #[.bool false,.slice none 0 0,.slice none 0 0] #[.bool false,.slice none 0 0,.slice none 0 0]
 generalize hV:(w.alloc (.cells #[.bool false,.slice none 0 0,.slice none 0 0] 48)).alloc (.cells #[.bool false,.slice none 0 0,.slice none 0 0] 48)=V1 at*
 clear hV b5
 obtain⟨gp,hgp⟩:∃g,w.heap.size+1=g:=⟨_,rfl⟩
 rw [hgp] at hp⊢
 have hgw:w.heap.size<gp:=by omega
 go_loopg [9] (n+1) (λg ix wr=>∃(k:Nat) (b:Bool) (Ap:oA9) (np cp:Nat) (Ep:oA9) (kp fp:Nat),k<=n/\n<g+k/\ix=.int .i64 k/\zan wr (zhA (rs.take k)) b Ap np cp Ep kp fp/\Blk wr gp 48 #[.bool b,.slice Ap np cp,.slice Ep kp fp]/\Below w.heap.size w wr/\Blk wr w.heap.size 48 #[.bool false,.slice none 0 0,.slice none 0 0])
 case atStart=>exact⟨0,false,none,0,0,none,0,0,Nat.zero_le _,by omega,rfl,zhr _,hp,hB,hk1⟩
 case round=>
  clear hp hB hk1 hgp
  obtain⟨k,b,Ap,np,cp,Ep,kp,fp,hkn,hg,rfl,hw,hp,hB,hk1⟩:=hrel
  by_cases hlt:k<n
  ·obtain⟨ad,b1,B1,m1,d1,E1,u1,v1,rfl,hadb,hc0,hc1,hc2,hx⟩:=(HN.out _ hB).num k hlt
   have HM:=lh9 (λw' (hb:Below wr.heap.size wr w')=>zow (zhA (rs.take k)) (rs.getD k 0) b Ap np cp Ep kp fp b1 B1 m1 d1 E1 u1 v1 w' (HTB.out _ (zac hB hb)) (hw.below hb) (hx.below hb) (SzQ.fit (HS.out k hkn) hw hK) (SzQ.fit (HE.out k hlt) hx hK))
   have hc1:=cell_q1 hc1
   have hc2:=cell_q2 hc2
   have i1:(0:Int)<=(k:Int):=by omega
   have i2:(k:Int)<(n:Int):=by omega
   obtain⟨p0,p1,p2⟩:=hp.c3
   obtain⟨st,d2,d3⟩:=zaD wr 48 #[.bool b1,.slice B1 m1 d1,.slice E1 u1 v1]
   obtain⟨q0,q1,q2⟩:=d2.c3
   have p3:=zae st p0
   have p4:=zae st p1
   have p5:=zae st p2
   have HM2:=lh9 (HM.out _ st)
   have HB1:=lh9 (zac hB st)
   have HP1:=lh9 (zad st hp)
   have HK2:=lh9 (zad st hk1)
   clear hw hx hB hp hk1 HM st d2 d3
   go_wp2_with fail
   refine HM2.out.mono ?_
   rintro e w3 ⟨b3,A3,n3,c3,E3,k3,f3,rfl,hw3,hb⟩
   rw [<-HSU.out k hlt] at hw3
   have hB3:=zac HB1.out hb
   have hp3:=zad hb HP1.out
   have hk3:=zad hb HK2.out
   obtain⟨sc0,sf0,sc1,sf1,sc2,sf2⟩:=st3 hp3 (.bool b3) (.slice A3 n3 c3)
   have hw4:=znx hw3 hp3 (.bool b3) (.slice A3 n3 c3) (.slice E3 k3 f3)
   have hB4:=bl3 (.bool b3) (.slice A3 n3 c3) (.slice E3 k3 f3) (by show w.heap.size<=gp;omega) hB3
   have hp4:=sn3 hp3 (.bool b3) (.slice A3 n3 c3) (.slice E3 k3 f3)
   have hk4:=zhR hk3 (by show w.heap.size≠gp;omega) (.bool b3) (.slice A3 n3 c3) (.slice E3 k3 f3)
   clear hb hB3 hp3 hk3 hw3 HM2 HB1 HP1 HK2 hc0 hc1 hc2 p0 p1 p2 p3 p4 p5 q0 q1 q2
   go_wp2
   go_roundg (n - k)
   case measure=>omega
   case rel=>exact⟨k+1,b3,A3,n3,c3,E3,k3,f3,by omega,by omega,by go_num,hw4,hp4,hB4,hk4⟩
  ·have hkn:k=n:=by omega
   subst hkn
   rw [HF.out] at hw
   obtain⟨p0,p1,p2⟩:=hp.c3
   obtain⟨sc0,sf0,sc1,sf1,sc2,sf2⟩:=st3 hk1 (.bool b) (.slice Ap np cp)
   obtain⟨r0,r1,r2⟩:=(sn3 hk1 (.bool b) (.slice Ap np cp) (.slice Ep kp fp)).c3
   have HG:=lh9 (gq3 hw hk1 hB (Nat.le_refl _))
   clear hw hp hk1 hB
   go_wp2
   refine bodyPost_ret (v:=.agg #[.bool b,.slice Ap np cp,.slice Ep kp fp]) (by simp [results,Tryz.results64,go_sem,r0,r1,r2]) rfl ?_
   exact HG.out
open Go Go.RowKit
set_option maxHeartbeats 16000000
set_option linter.unusedVariables false
section
variable {K K':Nat}{x y:Rat}{b b':Bool}{A A':oA9}{n n' c c':Nat}{E E':oA9}{k k' f f':Nat}{w:World}
theorem q_mul (hT:zao w)(h:zan w x b A n c E k f)(h':zan w y b' A' n' c' E' k' f')(z:SzQ K x)(z':SzQ K' y)(hK:K<=67108864:=by omega)(hK':K'<=67108864:=by omega):
  Calls Tryz.prog 138 #[.agg #[.bool b,.slice A n c,.slice E k f],.agg #[.bool b',.slice A' n' c',.slice E' k' f']] w (zaP w (x*y)):=rat_mul x y b A n c E k f b' A' n' c' E' k' f' w hT h h' (z.fit h hK) (z'.fit h' hK')
theorem q_cmp (hT:zao w)(h:zan w x b A n c E k f)(h':zan w y b' A' n' c' E' k' f')(z:SzQ K x)(z':SzQ K' y)(hK:K<=67108864:=by omega)(hK':K'<=67108864:=by omega):
  Calls Tryz.prog 121 #[.agg #[.bool b,.slice A n c,.slice E k f],.agg #[.bool b',.slice A' n' c',.slice E' k' f']] w (zbT w (zfU x y)):=zox x y b A n c E k f b' A' n' c' E' k' f' w hT h h' (z.fit h hK) (z'.fit h' hK')
theorem q_same {t:Bool}(e:decide (x=y)=t)(hT:zao w)(h:zan w x b A n c E k f)(h':zan w y b' A' n' c' E' k' f')(z:SzQ K x)(z':SzQ K' y)(hK:K<=67108864:=by omega)(hK':K'<=67108864:=by omega):
  Calls Tryz.prog 43 #[.agg #[.bool b,.slice A n c,.slice E k f],.agg #[.bool b',.slice A' n' c',.slice E' k' f']] w (λe w'=>e=.returned (.bool t)/\Below w.heap.size w w'):=zaA e (zmf x y b A n c E k f b' A' n' c' E' k' f' w hT h h' (z.fit h hK) (z'.fit h' hK'))
end
theorem en_mul:∀(args:Array Value) (w':World),Sem.run Tryz.prog (callFunc 138 args) w'=.ok (.enter 138 args) w':=Go.Proofs.enters_of Tryz.func138 (by kernel_rfl) rfl
theorem zaM.rats {w:World}{A:oA9}{n c:Nat}{xs:List Rat}(h:zaM w A n c xs):zhN w A n c xs:=⟨h.len,h.fits,h.most,λi hi=>h.at_ hi 0⟩
theorem zkW (rs:List Rat):zhA rs=zcb rs:=rfl
theorem q_sum {K n c:Nat}{A:oA9}{xs:List Rat}{w:World}(hT:zao w)(h:zaM w A n c xs)(hx:zay K xs)(hn:n<=1073741824)(hK:1+n*(K+1)<=67108864):
  Calls Tryz.prog 64 #[.slice A n c] w (zaP w (zcb xs)):=by
 have hl:=h.len
 have e:=zkW xs
 rw [<-e]
 refine rat_sum xs A n c (1+n*(K+1)) w hT h.rats hn hK (λi hi=>(hx.at_ (by omega)).up ?_) (λk hk=>?_)
 ·have:K+1<=n*(K+1):=Nat.le_mul_of_pos_left _ (by omega)
  omega
 ·rw [zkW]
  exact zoE hx hl k hk
theorem zmv {w:World}{g:Nat}{t:TypeId}{x:Rat}{b:Bool}{A:oA9}{n c:Nat}{E:oA9}{k f:Nat}(h:Blk w g t #[.bool b,.slice A n c,.slice E k f])(hx:zan w x b A n c E k f):zaM w (some ⟨g,0,none⟩) 1 1 [x]:=
 ⟨rfl,Nat.le_refl _,by decide,λi y hi=>by
  have h0:i=0:=by
   have:=(List.getElem?_eq_some_iff.1 hi).1
   simpa using this
  subst h0
  obtain rfl:x=y:=by simpa using hi
  exact⟨_,b,A,n,c,E,k,f,rfl,h.lt,by rw [zaO];exact h.cell 0,by rw [zaO];exact h.cell 1,by rw [zaO];exact h.cell 2,hx⟩⟩
open Go Go.RowKit
set_option maxHeartbeats 16000000
set_option linter.unusedVariables false
theorem ratC {T:World->Prop}{M:Nat->Prop}(hTT:∀w,T w->zao w)(h0:M 0->RatG0 T)(h1:M 1->RatG1 T)(h2:M 2->RatG2 T):RatC T M where
 g0:=h0
 g1:=h1
 g2:=h2
 new p q b b' A D n m c d w hT hA hD hn hm h0:=zoy p q b A n c b' D m d w (hTT w hT) hA hD hn hm h0
 newNo p q b b' A D n m c d w hT hA hD hn hm h0:=ziE p q b A n c b' D m d w (hTT w hT) hA hD hn hm h0
 of p q w hT h1 h2 h3 h4 h0:=rat_of p q w (hTT w hT) h1 h2 h3 h4 h0
 ofNo p q w hT h1 h2 h0:=zpB p q w (hTT w hT) h1 h2 (by omega) (by omega) h0
 num r b A n c E k f w hT h hf:=rat_num r b A n c E k f w (hTT w hT) h hf
 den r b A n c E k f w hT h hf:=rat_den r b A n c E k f w (hTT w hT) h hf
 sign r b A n c E k f w hT h hf:=ziF r b A n c E k f w (hTT w hT) h hf
 zero r b A n c E k f w hT h hf:=zbj r b A n c E k f w (hTT w hT) h hf
 isInt r b A n c E k f w hT h hf:=zbA r b A n c E k f w (hTT w hT) h hf
 bits r b A n c E k f w hT h hf:=rat_bits r b A n c E k f w (hTT w hT) h hf
 add r s b b' A A' n n' c c' E E' k k' f f' w hT h h' hf hf':=zow r s b A n c E k f b' A' n' c' E' k' f' w (hTT w hT) h h' hf hf'
 cmp r s b b' A A' n n' c c' E E' k k' f f' w hT h h' hf hf':=zox r s b A n c E k f b' A' n' c' E' k' f' w (hTT w hT) h h' hf hf'
 same r s b b' A A' n n' c c' E E' k k' f f' w hT h h' hf hf':=zmf r s b A n c E k f b' A' n' c' E' k' f' w (hTT w hT) h h' hf hf'
open Go Go.RowKit
set_option maxHeartbeats 16000000
set_option linter.unusedVariables false
def zhd (k:Nat)(f:Nat->Rat):Rat:=zcb ((List.range k).map f)
theorem znL (rs:List Rat)(r:Rat):zcb (rs++[r])=zcb rs+r:=by
 unfold zcb
 rw [List.foldl_append]
 rfl
theorem zjY (k:Nat)(f:Nat->Rat):zhd (k+1) f=zhd k f+f k:=by
 unfold zhd
 rw [List.range_succ,List.map_append,List.map_cons,List.map_nil,znL]
theorem ziT {k:Nat}{f g:Nat->Rat}(h:∀i,i<k->f i=g i):zhd k f=zhd k g:=by
 unfold zhd
 congr 1
 exact List.map_congr_left λi hi=>h i (List.mem_range.1 hi)
theorem zpM {k:Nat}{f:Nat->Rat}(h:∀i,i<k->f i=0):zhd k f=0:=by
 induction k with
 |zero=>rfl
 |succ k ih=>rw [zjY,ih (λi hi=>h i (by omega)),h k (by omega),Rat.add_zero]
theorem zpN {k c:Nat}(hc:c<k)(f:Nat->Rat):zhd k (λi=>f i*(if i=c then 1 else 0))=f c:=by
 induction k with
 |zero=>omega
 |succ k ih=>
   rw [zjY]
   by_cases h:c=k
   ·subst h
    rw [if_pos rfl,Rat.mul_one,zpM λi hi=>by rw [if_neg (by omega),Rat.mul_zero],Rat.zero_add]
   ·rw [if_neg (by omega),Rat.mul_zero,Rat.add_zero,ih (by omega)]
theorem zoR:∀{k:Nat}{xs ys:List Rat},xs.length=k->ys.length=k->zdY xs ys=zhd k λi=>xs.getD i 0*ys.getD i 0
 |k,xs,ys,hx,hy=>by
   unfold zdY zhd
   congr 1
   apply List.ext_getElem
   ·simp [hx,hy]
   ·intro i h1 h2
    have h3:i<k:=by simpa using h2
    rw [List.getElem_zipWith,List.getElem_map,List.getElem_range,List.getD_eq_getElem?_getD,List.getD_eq_getElem?_getD,List.getElem?_eq_getElem (by omega),List.getElem?_eq_getElem (by omega)]
    rfl
def zdH (n m:Nat)(f:Nat->Nat->Rat):List (List Rat):=(List.range n).map λr=>(List.range m).map (f r)
def atM (M:List (List Rat))(r c:Nat):Rat:=(M.getD r []).getD c 0
structure zcT (M:List (List Rat))(n m:Nat):Prop where
 rows:M.length=n
 cols:∀L ∈ M,L.length=m
theorem zcT.row {M:List (List Rat)}{n m:Nat}(h:zcT M n m){r:Nat}(hr:r<n):(M.getD r []).length=m:=by
 have hl:=h.rows
 rw [List.getD_eq_getElem?_getD,List.getElem?_eq_getElem (by omega)]
 exact h.cols _ (List.getElem_mem _)
theorem zev (n m:Nat)(f:Nat->Nat->Rat):zcT (zdH n m f) n m:=⟨by simp [zdH],λL hL=>by
 obtain⟨r,_,rfl⟩:=List.mem_map.1 hL
 simp⟩
theorem ziV {n m:Nat}{f:Nat->Nat->Rat}{r:Nat}(hr:r<n):(zdH n m f).getD r []=(List.range m).map (f r):=by
 unfold zdH
 rw [List.getD_eq_getElem?_getD,List.getElem?_map,List.getElem?_range hr]
 rfl
theorem ziC {m c:Nat}{f:Nat->Rat}(hc:c<m):((List.range m).map f).getD c 0=f c:=by
 rw [List.getD_eq_getElem?_getD,List.getElem?_map,List.getElem?_range hc]
 rfl
theorem zoD {n m:Nat}{f:Nat->Nat->Rat}{r c:Nat}(hr:r<n)(hc:c<m):atM (zdH n m f) r c=f r c:=by
 unfold atM
 rw [ziV hr,ziC hc]
theorem znN {n m:Nat}{f g:Nat->Nat->Rat}(h:∀r c,r<n->c<m->f r c=g r c):zdH n m f=zdH n m g:=by
 unfold zdH
 exact List.map_congr_left λr hr=>List.map_congr_left λc hc=>h r c (List.mem_range.1 hr) (List.mem_range.1 hc)
theorem znw {m:Nat}{xs:List Rat}(h:xs.length=m):(List.range m).map (λc=>xs.getD c 0)=xs:=by
 subst h
 apply List.ext_getElem
 ·simp
 ·intro i h1 h2
  rw [List.getElem_map,List.getElem_range,List.getD_eq_getElem?_getD,List.getElem?_eq_getElem h2]
  rfl
theorem zcT.eq {M:List (List Rat)}{n m:Nat}(h:zcT M n m):zdH n m (atM M)=M:=by
 have hl:=h.rows
 unfold zdH
 apply List.ext_getElem
 ·simp [hl]
 ·intro i h1 h2
  rw [List.getElem_map,List.getElem_range]
  have e:M.getD i []=M[i]:=by rw [List.getD_eq_getElem?_getD,List.getElem?_eq_getElem h2];rfl
  show(List.range m).map (λc=>(M.getD i []).getD c 0)=M[i]
  rw [e]
  exact znw (h.cols _ (List.getElem_mem h2))
theorem zcT.ext {A B:List (List Rat)}{n m:Nat}(hA:zcT A n m)(hB:zcT B n m)(h:∀r c,r<n->c<m->atM A r c=atM B r c):A=B:=by
 rw [<-hA.eq,<-hB.eq]
 exact znN h
def zcS (n:Nat)(M:List (List Rat))(c:Nat):List Rat:=(List.range n).map λr=>atM M r c
theorem zdr (n:Nat)(M:List (List Rat))(c:Nat):(zcS n M c).length=n:=by simp [zcS]
theorem colM_at {n:Nat}{M:List (List Rat)}{c r:Nat}(hr:r<n):(zcS n M c).getD r 0=atM M r c:=ziC hr
def zbq (n m:Nat)(M:List (List Rat)):List (List Rat):=zdH m n λr c=>atM M c r
theorem zpS {n m:Nat}{M:List (List Rat)}{r:Nat}(hr:r<m):(zbq n m M).getD r []=zcS n M r:=ziV hr
def zdG (n k m:Nat)(A B:List (List Rat)):List (List Rat):=zdH n m λr c=>zdY (A.getD r []) (zcS k B c)
theorem zfC (n k m:Nat)(A B:List (List Rat)):zcT (zdG n k m A B) n m:=zev _ _ _
theorem mulM_at {n k m:Nat}{A B:List (List Rat)}(hA:zcT A n k){r c:Nat}(hr:r<n)(hc:c<m):atM (zdG n k m A B) r c=zhd k λi=>atM A r i*atM B i c:=by
 unfold zdG
 rw [zoD hr hc,zoR (hA.row hr) (zdr k B c)]
 exact ziT λi hi=>by rw [colM_at hi];rfl
def oneM (n:Nat):List (List Rat):=zdH n n λr c=>if r=c then 1 else 0
theorem mul_oneM {n k:Nat}{A:List (List Rat)}(hA:zcT A n k):zdG n k k A (oneM k)=A:=by
 refine zcT.ext (zfC _ _ _ _ _) hA λr c hr hc=>?_
 rw [mulM_at hA hr hc]
 have h1:zhd k (λi=>atM A r i*atM (oneM k) i c)=zhd k (λi=>atM A r i*(if i=c then 1 else 0)):=ziT λi hi=>by unfold oneM;rw [zoD hi hc]
 rw [h1]
 exact zpN hc _
theorem zbQ (n m:Nat)(M:List (List Rat)):zcT (zbq n m M) m n:=zev _ _ _
def byM (n m:Nat)(v:List Rat)(M:List (List Rat)):List Rat:=(List.range m).map λc=>zdY v (zcS n M c)
def zaN (M:List (List Rat))(v:List Rat):List Rat:=M.map λL=>zdY L v
theorem zju:∀(xs ys:List Rat),zdY xs ys=zdY ys xs
 |[],[]=>rfl
 |[],_::_=>rfl
 |_::_,[]=>rfl
 |x::xs,y::ys=>by rw [zjv,zjv,zju xs ys,Rat.mul_comm]
theorem mulM_row {n k m:Nat}{A B:List (List Rat)}{r:Nat}(hr:r<n):(zdG n k m A B).getD r []=byM k m (A.getD r []) B:=ziV hr
theorem znS {n m:Nat}{M:List (List Rat)}{v:List Rat}:zaN (zbq n m M) v=byM n m v M:=by
 unfold zaN byM zbq zdH
 rw [List.map_map]
 exact List.map_congr_left λc _=>zju _ _
theorem zls (m:Nat):zcT [] 0 m:=⟨rfl,λL hL=>by cases hL⟩
