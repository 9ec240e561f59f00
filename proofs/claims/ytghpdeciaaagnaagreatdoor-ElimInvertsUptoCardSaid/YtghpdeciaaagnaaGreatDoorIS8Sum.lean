/- What this claim leans on. -/
import Derived.Test.YtghpdeciaaagnaaGreatDoorIJ8Add
import Derived.Test.YtghpdeciaaagnaaGreatDoorIJ8Mul
import Derived.Test.YtghpdeciaaagnaaGreatDoorIJ8Ord
namespace Go.Proofs.YtghpdeciaaagnaaGreatDoor
open Go Go.RowKit
set_option maxHeartbeats 16000000
set_option maxRecDepth 100000
set_option linter.unusedVariables false
set_option linter.unusedSimpArgs false
structure ziY (w:World)(A:oA9)(n c:Nat)(rs:List Rat):Prop where
 len:rs.length=n
 fits:n<=c
 most:c<=9223372036854775807
 num:∀i,i<n->∃(ad:Addr) (b:Bool) (B:oA9) (m d:Nat) (E:oA9) (u v:Nat),A=some ad/\ad.block<w.heap.size/\w.cell? (ad.add (i*3))=some (.bool b)/\w.cell? (ad.add (i*3+1))=some (.slice B m d)/\w.cell? (ad.add (i*3+2))=some (.slice E u v)/\zah w (rs.getD i 0) b B m d E u v
theorem ziY.below {w w':World}{A:oA9}{n c:Nat}{rs:List Rat}(h:ziY w A n c rs)(hb:Below w.heap.size w w'):ziY w' A n c rs:=
 ⟨h.len,h.fits,h.most,λi hi=>by
  obtain⟨ad,b,B,m,d,E,u,v,e,h1,h2,h3,h4,h5⟩:=h.num i hi
  exact⟨ad,b,B,m,d,E,u,v,e,Nat.lt_of_lt_of_le h1 hb.size,zac hb h2,zac hb h3,zac hb h4,h5.below hb⟩⟩
def ziC (rs:List Rat):Rat:=rs.foldl (λa b=>a+b) 0
theorem zrc (rs:List Rat)(r:Rat):ziC (rs++[r])=ziC rs+r:=by unfold ziC;rw [List.foldl_append];rfl
theorem zrd (rs:List Rat)(k:Nat)(h:k<rs.length):ziC (rs.take (k+1))=ziC (rs.take k)+rs.getD k 0:=by
 rw [List.take_succ_eq_append_getElem h,zrc,List.getD_eq_getElem?_getD,List.getElem?_eq_getElem h]
 rfl
theorem zoP {w:World}{r:Rat}{b:Bool}{A E:oA9}{n c k f g:Nat}{t:TypeId}{p:Bool}{q q2:oA9}{r1 s r2 s2:Nat}(h:zah w r b A n c E k f)(kd:Blk w g t #[.bool p,.slice q r1 s,.slice q2 r2 s2])(x y z:Value):
  zah (((w.setCell ⟨g,0,none⟩ x).setCell ⟨g,1,none⟩ y).setCell ⟨g,2,none⟩ z) r b A n c E k f:=zbN h kd (NoU.s3 _ _ _ _ _ _ _) (zef _ _ _ _ _)
theorem blk_far3 {w:World}{g g':Nat}{t:TypeId}{cs:Array Value}(h:Blk w g t cs)(hne:g≠g')(x y z:Value):Blk (((w.setCell ⟨g',0,none⟩ x).setCell ⟨g',1,none⟩ y).setCell ⟨g',2,none⟩ z) g t cs:=((h.far (p:=⟨g',0,none⟩) hne x).far (p:=⟨g',1,none⟩) hne y).far (p:=⟨g',2,none⟩) hne z
theorem cell_q1 {w:World}{ad:Addr}{k:Nat}{v:Value}(h:w.cell? (ad.add (k+1))=some v):w.cell? ⟨(ad.add k).block,(ad.add k).off+1,none⟩=some v:=by
 rw [<-Go.Deep.add_add] at h
 exact h
theorem cell_q2 {w:World}{ad:Addr}{k:Nat}{v:Value}(h:w.cell? (ad.add (k+2))=some v):w.cell? ⟨(ad.add k).block,(ad.add k).off+2,none⟩=some v:=by
 rw [<-Go.Deep.add_add] at h
 exact h
theorem rat_sum (rs:List Rat)(A:oA9)(n c K:Nat)(w:World)(hT:zai w)(h:ziY w A n c rs)(hn:n<=1073741824)(hK:K<=67108864)(he:∀i,i<n->SzQ K (rs.getD i 0))(hs:∀k,k<=n->SzQ K (ziC (rs.take k))):
  Calls Tryz.prog 122 #[.slice A n c] w (zaH w (ziC rs)):=by
 have HTB:=lh9 (λw' (h:Below w.heap.size w w')=>hT.on h)
 have HN:=lh9 (λw' (hb:Below w.heap.size w w')=>h.below hb)
 have HS:=lh9 hs
 have HE:=lh9 he
 have HSU:=lh9 (λk (hk:k<n)=>zrd rs k (by rw [h.len];exact hk))
 have HF:Hid (ziC (rs.take n)=ziC rs):=by
  show _=_
  rw [List.take_of_length_le (by rw [h.len];exact Nat.le_refl _)]
 clear h hs he hT
 go_enter Tryz.func122,Tryz.ntmps122
 go_wp2_with fail
 obtain⟨hB,hk1,hp,b5⟩:=zbI w 41 41 #[.bool false,.slice none 0 0,.slice none 0 0] #[.bool false,.slice none 0 0,.slice none 0 0]
 generalize hV:(w.alloc (.cells #[.bool false,.slice none 0 0,.slice none 0 0] 41)).alloc (.cells #[.bool false,.slice none 0 0,.slice none 0 0] 41)=V1 at*
 clear hV b5
 obtain⟨gp,hgp⟩:∃g,w.heap.size+1=g:=⟨_,rfl⟩
 rw [hgp] at hp⊢
 have hgw:w.heap.size<gp:=by omega
 go_loopg [9] (n+1) (λg ix wr=>∃(k:Nat) (b:Bool) (Ap:oA9) (np cp:Nat) (Ep:oA9) (kp fp:Nat),k<=n/\n<g+k/\ix=.int .i64 k/\zah wr (ziC (rs.take k)) b Ap np cp Ep kp fp/\Blk wr gp 41 #[.bool b,.slice Ap np cp,.slice Ep kp fp]/\Below w.heap.size w wr/\Blk wr w.heap.size 41 #[.bool false,.slice none 0 0,.slice none 0 0])
 case atStart=>exact⟨0,false,none,0,0,none,0,0,Nat.zero_le _,by omega,rfl,zfR _,hp,hB,hk1⟩
 case round=>
  clear hp hB hk1 hgp
  obtain⟨k,b,Ap,np,cp,Ep,kp,fp,hkn,hg,rfl,hw,hp,hB,hk1⟩:=hrel
  by_cases hlt:k<n
  ·obtain⟨ad,b1,B1,m1,d1,E1,u1,v1,rfl,hadb,hc0,hc1,hc2,hx⟩:=(HN.out _ hB).num k hlt
   have HM:=lh9 (λw' (hb:Below wr.heap.size wr w')=>ziN (ziC (rs.take k)) (rs.getD k 0) b Ap np cp Ep kp fp b1 B1 m1 d1 E1 u1 v1 w' (HTB.out _ (zab hB hb)) (hw.below hb) (hx.below hb) (SzQ.fit (HS.out k hkn) hw hK) (SzQ.fit (HE.out k hlt) hx hK))
   have hc1:=cell_q1 hc1
   have hc2:=cell_q2 hc2
   have i1:(0:Int)<=(k:Int):=by omega
   have i2:(k:Int)<(n:Int):=by omega
   obtain⟨p0,p1,p2⟩:=hp.c3
   obtain⟨st,d2,d3⟩:=zav wr 41 #[.bool b1,.slice B1 m1 d1,.slice E1 u1 v1]
   obtain⟨q0,q1,q2⟩:=d2.c3
   have p3:=zac st p0
   have p4:=zac st p1
   have p5:=zac st p2
   have HM2:=lh9 (HM.out _ st)
   have HB1:=lh9 (zab hB st)
   have HP1:=lh9 (zaa st hp)
   have HK2:=lh9 (zaa st hk1)
   clear hw hx hB hp hk1 HM st d2 d3
   go_wp2_with fail
   refine HM2.out.mono ?_
   rintro e w3 ⟨b3,A3,n3,c3,E3,k3,f3,rfl,hw3,hb⟩
   rw [<-HSU.out k hlt] at hw3
   have hB3:=zab HB1.out hb
   have hp3:=zaa hb HP1.out
   have hk3:=zaa hb HK2.out
   obtain⟨sc0,sf0,sc1,sf1,sc2,sf2⟩:=st3 hp3 (.bool b3) (.slice A3 n3 c3)
   have hw4:=zoP hw3 hp3 (.bool b3) (.slice A3 n3 c3) (.slice E3 k3 f3)
   have hB4:=bl3 (.bool b3) (.slice A3 n3 c3) (.slice E3 k3 f3) (by show w.heap.size<=gp;omega) hB3
   have hp4:=sn3 hp3 (.bool b3) (.slice A3 n3 c3) (.slice E3 k3 f3)
   have hk4:=blk_far3 hk3 (by show w.heap.size≠gp;omega) (.bool b3) (.slice A3 n3 c3) (.slice E3 k3 f3)
   clear hb hB3 hp3 hk3 hw3 HM2 HB1 HP1 HK2 hc0 hc1 hc2 p0 p1 p2 p3 p4 p5 q0 q1 q2
   go_wp2
   go_roundg (n - k)
   case measure=>omega
   case rel=>exact⟨k+1,b3,A3,n3,c3,E3,k3,f3,by omega,by omega,by go_num,hw4,hp4,hB4,hk4⟩
  ·have hkn:k=n:=by omega
   subst hkn
   rw [HF.out] at hw
   obtain⟨p0,p1,p2⟩:=hp.c3
   obtain⟨sc0,sf0,sc1,sf1,sc2,sf2⟩:=st3 hk1 (.bool b) (.slice Ap np cp)
   obtain⟨r0,r1,r2⟩:=(sn3 hk1 (.bool b) (.slice Ap np cp) (.slice Ep kp fp)).c3
   have HG:=lh9 (gq3 hw hk1 hB (Nat.le_refl _))
   clear hw hp hk1 hB
   go_wp2
   refine bodyPost_ret (v:=.agg #[.bool b,.slice Ap np cp,.slice Ep kp fp]) (by simp [results,Tryz.results122,go_sem,r0,r1,r2]) rfl ?_
   exact HG.out
section
variable {K K':Nat}{x y:Rat}{b b':Bool}{A A':oA9}{n n' c c':Nat}{E E':oA9}{k k' f f':Nat}{w:World}
theorem q_add (hT:zai w)(h:zah w x b A n c E k f)(h':zah w y b' A' n' c' E' k' f')(z:SzQ K x)(z':SzQ K' y)(hK:K<=67108864:=by omega)(hK':K'<=67108864:=by omega):
  Calls Tryz.prog 126 #[.agg #[.bool b,.slice A n c,.slice E k f],.agg #[.bool b',.slice A' n' c',.slice E' k' f']] w (zaH w (x+y)):=ziN x y b A n c E k f b' A' n' c' E' k' f' w hT h h' (z.fit h hK) (z'.fit h' hK')
theorem zeH (hT:zai w)(h:zah w x b A n c E k f)(h':zah w y b' A' n' c' E' k' f')(z:SzQ K x)(z':SzQ K' y)(hK:K<=67108864:=by omega)(hK':K'<=67108864:=by omega):
  Calls Tryz.prog 38 #[.agg #[.bool b,.slice A n c,.slice E k f],.agg #[.bool b',.slice A' n' c',.slice E' k' f']] w (zaH w (x*y)):=zpH x y b A n c E k f b' A' n' c' E' k' f' w hT h h' (z.fit h hK) (z'.fit h' hK')
theorem q_cmp (hT:zai w)(h:zah w x b A n c E k f)(h':zah w y b' A' n' c' E' k' f')(z:SzQ K x)(z':SzQ K' y)(hK:K<=67108864:=by omega)(hK':K'<=67108864:=by omega):
  Calls Tryz.prog 174 #[.agg #[.bool b,.slice A n c,.slice E k f],.agg #[.bool b',.slice A' n' c',.slice E' k' f']] w (zcH w (zgG x y)):=zpG x y b A n c E k f b' A' n' c' E' k' f' w hT h h' (z.fit h hK) (z'.fit h' hK')
theorem zfM {t:Bool}(e:decide (x=y)=t)(hT:zai w)(h:zah w x b A n c E k f)(h':zah w y b' A' n' c' E' k' f')(z:SzQ K x)(z':SzQ K' y)(hK:K<=67108864:=by omega)(hK':K'<=67108864:=by omega):
  Calls Tryz.prog 37 #[.agg #[.bool b,.slice A n c,.slice E k f],.agg #[.bool b',.slice A' n' c',.slice E' k' f']] w (λe w'=>e=.returned (.bool t)/\Below w.heap.size w w'):=zay e (zno x y b A n c E k f b' A' n' c' E' k' f' w hT h h' (z.fit h hK) (z'.fit h' hK'))
theorem zoL {t:Bool}(e:decide (x=0)=t)(hT:zai w)(h:zah w x b A n c E k f)(z:SzQ K x)(hK:K<=67108864:=by omega):
  Calls Tryz.prog 17 #[.agg #[.bool b,.slice A n c,.slice E k f]] w (λe w'=>e=.returned (.bool t)/\Below w.heap.size w w'):=zay e (zbb x b A n c E k f w hT h (z.fit h hK))
end
theorem en_mul:∀(args:Array Value) (w':World),Sem.run Tryz.prog (callFunc 38 args) w'=.ok (.enter 38 args) w':=Go.Proofs.enters_of Tryz.func38 (by kernel_rfl) rfl
theorem en_addt:∀(args:Array Value) (w':World),Sem.run Tryz.prog (callFunc 125 args) w'=.ok (.enter 125 args) w':=Go.Proofs.enters_of Tryz.func125 (by kernel_rfl) rfl
theorem zaz.rats {w:World}{A:oA9}{n c:Nat}{xs:List Rat}(h:zaz w A n c xs):ziY w A n c xs:=⟨h.len,h.fits,h.most,λi hi=>h.at_ hi 0⟩
theorem sum_is (rs:List Rat):ziC rs=zdG rs:=rfl
theorem q_sum {K n c:Nat}{A:oA9}{xs:List Rat}{w:World}(hT:zai w)(h:zaz w A n c xs)(hx:zau K xs)(hn:n<=1073741824)(hK:1+n*(K+1)<=67108864):
  Calls Tryz.prog 122 #[.slice A n c] w (zaH w (zdG xs)):=by
 have hl:=h.len
 have e:=sum_is xs
 rw [<-e]
 refine rat_sum xs A n c (1+n*(K+1)) w hT h.rats hn hK (λi hi=>(hx.at_ (by omega)).up ?_) (λk hk=>?_)
 ·have:K+1<=n*(K+1):=Nat.le_mul_of_pos_left _ (by omega)
  omega
 ·rw [sum_is]
  exact take_sz hx hl k hk
theorem znD {w:World}{g:Nat}{t:TypeId}{x:Rat}{b:Bool}{A:oA9}{n c:Nat}{E:oA9}{k f:Nat}(h:Blk w g t #[.bool b,.slice A n c,.slice E k f])(hx:zah w x b A n c E k f):zaz w (some ⟨g,0,none⟩) 1 1 [x]:=
 ⟨rfl,Nat.le_refl _,by decide,λi y hi=>by
  have h0:i=0:=by
   have:=(List.getElem?_eq_some_iff.1 hi).1
   simpa using this
  subst h0
  obtain rfl:x=y:=by simpa using hi
  exact⟨_,b,A,n,c,E,k,f,rfl,h.lt,by rw [zaP];exact h.cell 0,by rw [zaP];exact h.cell 1,by rw [zaP];exact h.cell 2,hx⟩⟩
structure zhK (w:World)(A:oA9)(n:Nat)(Ls:List (List Rat)):Prop where
 len:Ls.length=n
 num:∀i L,Ls[i]?=some L->∃(ad:Addr) (B:oA9) (d:Nat),A=some ad/\ad.block<w.heap.size/\w.cell? (ad.add i)=some (.slice B L.length d)/\zaz w B L.length d L
theorem zhK.below {w w':World}{A:oA9}{n:Nat}{Ls:List (List Rat)}(h:zhK w A n Ls)(hb:Below w.heap.size w w'):zhK w' A n Ls:=
 ⟨h.len,λi L hi=>by
  obtain⟨ad,B,d,e,h1,h2,h3⟩:=h.num i L hi
  exact⟨ad,B,d,e,Nat.lt_of_lt_of_le h1 hb.size,zac hb h2,h3.keep hb⟩⟩
theorem zbE {α:Type}{xs:List α}{k:Nat}{d:α}(h:k<xs.length):xs[k]?=some (xs.getD k d):=by
 rw [List.getD_eq_getElem?_getD,List.getElem?_eq_getElem h];rfl
section
variable {K L:Nat}{rs:List Rat}{Ls:List (List Rat)}{A B:oA9}{n n' c d:Nat}{w:World}
end
theorem ratC {T:World->Prop}{M:Nat->Prop}(hTT:∀w,T w->zai w)(h0:M 0->RatG0 T)(h1:M 1->RatG1 T)(h2:M 2->RatG2 T):RatC T M where
 g0:=h0
 g1:=h1
 g2:=h2
 new p q b b' A D n m c d w hT hA hD hn hm h0:=zpI p q b A n c b' D m d w (hTT w hT) hA hD hn hm h0
 newNo p q b b' A D n m c d w hT hA hD hn hm h0:=zjQ p q b A n c b' D m d w (hTT w hT) hA hD hn hm h0
 of p q w hT h1 h2 h3 h4 h0:=rat_of p q w (hTT w hT) h1 h2 h3 h4 h0
 ofNo p q w hT h1 h2 h0:=zqS p q w (hTT w hT) h1 h2 (by omega) (by omega) h0
 num r b A n c E k f w hT h hf:=zmc r b A n c E k f w (hTT w hT) h hf
 den r b A n c E k f w hT h hf:=zlY r b A n c E k f w (hTT w hT) h hf
 sign r b A n c E k f w hT h hf:=zjR r b A n c E k f w (hTT w hT) h hf
 zero r b A n c E k f w hT h hf:=zbb r b A n c E k f w (hTT w hT) h hf
 isInt r b A n c E k f w hT h hf:=zby r b A n c E k f w (hTT w hT) h hf
 bits r b A n c E k f w hT h hf:=rat_bits r b A n c E k f w (hTT w hT) h hf
 neg r b A n c E k f w hT h hf:=ziP r b A n c E k f w (hTT w hT) h hf
 inv r b A n c E k f w hT h hf h0:=ziO r b A n c E k f w (hTT w hT) h hf h0
 invNo r b A n c E k f w hT h hf h0:=zoQ r b A n c E k f w (hTT w hT) h hf h0
 add r s b b' A A' n n' c c' E E' k k' f f' w hT h h' hf hf':=ziN r s b A n c E k f b' A' n' c' E' k' f' w (hTT w hT) h h' hf hf'
 sub r s b b' A A' n n' c c' E E' k k' f f' w hT h h' hf hf':=rat_sub r s b A n c E k f b' A' n' c' E' k' f' w (hTT w hT) h h' hf hf'
 cmp r s b b' A A' n n' c c' E E' k k' f f' w hT h h' hf hf':=zpG r s b A n c E k f b' A' n' c' E' k' f' w (hTT w hT) h h' hf hf'
 same r s b b' A A' n n' c c' E E' k k' f f' w hT h h' hf hf':=zno r s b A n c E k f b' A' n' c' E' k' f' w (hTT w hT) h h' hf hf'
theorem zoX:zdT RefQ where
 below h hb:=h.below hb
 offg h hk hcs ho:=⟨⟨h.1.1,zjq h.1.2 hk hcs ho⟩,zjq h.2 hk hcs ho⟩
abbrev ziZ (w:World)(A:oA9)(n c:Nat)(xs:List Rat):Prop:=zaI RefQ w A n c xs
theorem ziZ.keep {w w':World}{A:oA9}{n c:Nat}{xs:List Rat}(h:ziZ w A n c xs)(hb:Below w.heap.size w w'):ziZ w' A n c xs:=zaI.below zoX h hb
theorem ziZ.get {w wr:World}{A:oA9}{n c:Nat}{xs:List Rat}(h:ziZ w A n c xs)(hb:Below w.heap.size w wr){i:Nat}(hi:i<n):∃(ad:Addr) (b:Bool) (B:oA9) (m d:Nat) (F:oA9) (u v:Nat),A=some ad/\ad.block<w.heap.size/\wr.cell? (ad.add (i*3))=some (.bool b)/\wr.cell? ⟨(ad.add (i*3)).block,(ad.add (i*3)).off+1,none⟩=some (.slice B m d)/\wr.cell? ⟨(ad.add (i*3)).block,(ad.add (i*3)).off+2,none⟩=some (.slice F u v)/\RefQ wr (xs.getD i 0) b B m d F u v:=by
 obtain⟨ad,b,B,m,d,F,u,v,e,h0,h1,h2,h3,h4⟩:=h.at_ hi 0
 exact⟨ad,b,B,m,d,F,u,v,e,h0,zac hb h1,zac hb (ziF h2),zac hb (zpq h3),h4.below hb⟩
def zaw (k:Nat)(f:Nat->Rat):Rat:=zdG ((List.range k).map f)
theorem zhX (f:Nat->Rat):zaw 0 f=0:=rfl
theorem zpc (rs:List Rat)(r:Rat):zdG (rs++[r])=zdG rs+r:=by
 unfold zdG
 rw [List.foldl_append]
 rfl
theorem zaL (k:Nat)(f:Nat->Rat):zaw (k+1) f=zaw k f+f k:=by
 unfold zaw
 rw [List.range_succ,List.map_append,List.map_cons,List.map_nil,zpc]
theorem zan {k:Nat}{f g:Nat->Rat}(h:∀i,i<k->f i=g i):zaw k f=zaw k g:=by
 unfold zaw
 congr 1
 exact List.map_congr_left λi hi=>h i (List.mem_range.1 hi)
theorem zbB {k:Nat}{f:Nat->Rat}(h:∀i,i<k->f i=0):zaw k f=0:=by
 induction k with
 |zero=>rfl
 |succ k ih=>rw [zaL,ih (λi hi=>h i (by omega)),h k (by omega),Rat.add_zero]
theorem znR (a b c d:Rat):(a+b)+(c+d)=(a+c)+(b+d):=by
 rw [Rat.add_assoc,Rat.add_assoc,<-Rat.add_assoc b c d,<-Rat.add_assoc c b d,Rat.add_comm b c]
theorem zco (k:Nat)(f g:Nat->Rat):zaw k (λi=>f i+g i)=zaw k f+zaw k g:=by
 induction k with
 |zero=>exact(Rat.add_zero 0).symm
 |succ k ih=>rw [zaL,zaL,zaL,ih,znR]
theorem zaK (k:Nat)(a:Rat)(f:Nat->Rat):a*zaw k f=zaw k (λi=>a*f i):=by
 induction k with
 |zero=>exact Rat.mul_zero a
 |succ k ih=>rw [zaL,zaL,Rat.mul_add,ih]
theorem zgn (n k:Nat)(f:Nat->Nat->Rat):zaw n (λi=>zaw k (λj=>f i j))=zaw k (λj=>zaw n (λi=>f i j)):=by
 induction n with
 |zero=>exact(zbB λi _=>rfl).symm
 |succ n ih=>
   rw [zaL,ih,<-zco]
   exact zan λj _=>(zaL n λi=>f i j).symm
theorem zlk {k c:Nat}(hc:c<k)(f:Nat->Rat):zaw k (λi=>f i*(if i=c then 1 else 0))=f c:=by
 induction k with
 |zero=>omega
 |succ k ih=>
   rw [zaL]
   by_cases h:c=k
   ·subst h
    rw [if_pos rfl,Rat.mul_one,zbB λi hi=>by rw [if_neg (by omega),Rat.mul_zero],Rat.zero_add]
   ·rw [if_neg (by omega),Rat.mul_zero,Rat.add_zero,ih (by omega)]
theorem zqi:∀{k:Nat} {xs ys:List Rat},xs.length=k->ys.length=k->zhi xs ys=zaw k λi=>xs.getD i 0*ys.getD i 0
 |k,xs,ys,hx,hy=>by
   unfold zhi zaw
   congr 1
   apply List.ext_getElem
   ·simp [hx,hy]
   ·intro i h1 h2
    have h3:i<k:=by simpa using h2
    rw [List.getElem_zipWith,List.getElem_map,List.getElem_range,List.getD_eq_getElem?_getD,List.getD_eq_getElem?_getD,List.getElem?_eq_getElem (by omega),List.getElem?_eq_getElem (by omega)]
    rfl
def zdh (n m:Nat)(f:Nat->Nat->Rat):List (List Rat):=(List.range n).map λr=>(List.range m).map (f r)
def atM (M:List (List Rat))(r c:Nat):Rat:=(M.getD r []).getD c 0
structure zaN (M:List (List Rat))(n m:Nat):Prop where
 rows:M.length=n
 cols:∀L ∈ M,L.length=m
theorem zaN.row {M:List (List Rat)}{n m:Nat}(h:zaN M n m){r:Nat}(hr:r<n):(M.getD r []).length=m:=by
 have hl:=h.rows
 rw [List.getD_eq_getElem?_getD,List.getElem?_eq_getElem (by omega)]
 exact h.cols _ (List.getElem_mem _)
theorem zcq (n m:Nat)(f:Nat->Nat->Rat):zaN (zdh n m f) n m:=⟨by simp [zdh],λL hL=>by
 obtain⟨r,_,rfl⟩:=List.mem_map.1 hL
 simp⟩
theorem tabN_row {n m:Nat}{f:Nat->Nat->Rat}{r:Nat}(hr:r<n):(zdh n m f).getD r []=(List.range m).map (f r):=by
 unfold zdh
 rw [List.getD_eq_getElem?_getD,List.getElem?_map,List.getElem?_range hr]
 rfl
theorem zjP {m c:Nat}{f:Nat->Rat}(hc:c<m):((List.range m).map f).getD c 0=f c:=by
 rw [List.getD_eq_getElem?_getD,List.getElem?_map,List.getElem?_range hc]
 rfl
theorem zfi {n m:Nat}{f:Nat->Nat->Rat}{r c:Nat}(hr:r<n)(hc:c<m):atM (zdh n m f) r c=f r c:=by
 unfold atM
 rw [tabN_row hr,zjP hc]
theorem zpf {n m:Nat}{f g:Nat->Nat->Rat}(h:∀r c,r<n->c<m->f r c=g r c):zdh n m f=zdh n m g:=by
 unfold zdh
 exact List.map_congr_left λr hr=>List.map_congr_left λc hc=>h r c (List.mem_range.1 hr) (List.mem_range.1 hc)
theorem zoO {m:Nat}{xs:List Rat}(h:xs.length=m):(List.range m).map (λc=>xs.getD c 0)=xs:=by
 subst h
 apply List.ext_getElem
 ·simp
 ·intro i h1 h2
  rw [List.getElem_map,List.getElem_range,List.getD_eq_getElem?_getD,List.getElem?_eq_getElem h2]
  rfl
theorem zaN.eq {M:List (List Rat)}{n m:Nat}(h:zaN M n m):zdh n m (atM M)=M:=by
 have hl:=h.rows
 unfold zdh
 apply List.ext_getElem
 ·simp [hl]
 ·intro i h1 h2
  rw [List.getElem_map,List.getElem_range]
  have e:M.getD i []=M[i]:=by rw [List.getD_eq_getElem?_getD,List.getElem?_eq_getElem h2];rfl
  show(List.range m).map (λc=>(M.getD i []).getD c 0)=M[i]
  rw [e]
  exact zoO (h.cols _ (List.getElem_mem h2))
theorem zaN.ext {A B:List (List Rat)}{n m:Nat}(hA:zaN A n m)(hB:zaN B n m)(h:∀r c,r<n->c<m->atM A r c=atM B r c):A=B:=by
 rw [<-hA.eq,<-hB.eq]
 exact zpf h
def zhd (n:Nat)(M:List (List Rat))(c:Nat):List Rat:=(List.range n).map λr=>atM M r c
theorem zhe (n:Nat)(M:List (List Rat))(c:Nat):(zhd n M c).length=n:=by simp [zhd]
theorem colM_at {n:Nat}{M:List (List Rat)}{c r:Nat}(hr:r<n):(zhd n M c).getD r 0=atM M r c:=zjP hr
def zcW (n m:Nat)(M:List (List Rat)):List (List Rat):=zdh m n λr c=>atM M c r
def zfs (n k m:Nat)(A B:List (List Rat)):List (List Rat):=zdh n m λr c=>zhi (A.getD r []) (zhd k B c)
theorem zcV (n k m:Nat)(A B:List (List Rat)):zaN (zfs n k m A B) n m:=zcq _ _ _
theorem zlN {n k m:Nat}{A B:List (List Rat)}(hA:zaN A n k){r c:Nat}(hr:r<n)(hc:c<m):atM (zfs n k m A B) r c=zaw k λi=>atM A r i*atM B i c:=by
 unfold zfs
 rw [zfi hr hc,zqi (hA.row hr) (zhe k B c)]
 exact zan λi hi=>by rw [colM_at hi];rfl
def oneM (n:Nat):List (List Rat):=zdh n n λr c=>if r=c then 1 else 0
theorem zlm (n m:Nat)(M:List (List Rat)):zaN (zcW n m M) m n:=zcq _ _ _
def byM (n m:Nat)(v:List Rat)(M:List (List Rat)):List Rat:=(List.range m).map λc=>zhi v (zhd n M c)
def zdu (M:List (List Rat))(v:List Rat):List Rat:=M.map λL=>zhi L v
theorem zkG:∀(xs ys:List Rat),zhi xs ys=zhi ys xs
 |[],[]=>rfl
 |[],_::_=>rfl
 |_::_,[]=>rfl
 |x::xs,y::ys=>by rw [zkH,zkH,zkG xs ys,Rat.mul_comm]
theorem zpi {n m:Nat}{M:List (List Rat)}{v:List Rat}:zdu (zcW n m M) v=byM n m v M:=by
 unfold zdu byM zcW zdh
 rw [List.map_map]
 exact List.map_congr_left λc _=>zkG _ _
theorem dims_nil (m:Nat):zaN [] 0 m:=⟨rfl,λL hL=>by cases hL⟩
def sg (c:Nat):Rat:=if c%2=0 then 1 else -1
def skp (c j:Nat):Nat:=if j<c then j else j+1
def mnr (M:Nat->Nat->Rat)(c:Nat):Nat->Nat->Rat:=λi j=>M (i+1) (skp c j)
def zaF:Nat->(Nat->Nat->Rat)->Rat
 |0,_=>1
 |n+1,M=>zaw (n+1) λc=>sg c*M 0 c*zaF n (mnr M c)
theorem zaX (n:Nat)(M:Nat->Nat->Rat):zaF (n+1) M=zaw (n+1) λc=>sg c*M 0 c*zaF n (mnr M c):=rfl
theorem zpL (c:Nat):sg (c+1)= -sg c:=by
 unfold sg
 by_cases h:c%2=0
 ·rw [if_neg (by omega),if_pos h]
 ·rw [if_pos (by omega),if_neg h,Rat.neg_neg]
theorem skp_lt {c j n:Nat}(hj:j<n):skp c j<n+1:=by unfold skp;split<;>omega
theorem skp_ne (c j:Nat):skp c j≠c:=by unfold skp;split<;>omega
theorem zaV:∀{n:Nat} {M N:Nat->Nat->Rat},(∀i,i<n->∀j,j<n->M i j=N i j)->zaF n M=zaF n N
 |0,_,_,_=>rfl
 |n+1,M,N,h=>by
   rw [zaX,zaX]
   refine zan λc hc=>?_
   rw [h 0 (by omega) c hc,zaV (n:=n) (M:=mnr M c) (N:=mnr N c) λi hi j hj=>h (i+1) (by omega) _ (skp_lt hj)]
def zaQ (M:Nat->Nat->Rat)(k:Nat)(v:Nat->Rat):Nat->Nat->Rat:=λi j=>if j=k then v i else M i j
theorem zbk (M:Nat->Nat->Rat)(k:Nat)(v:Nat->Rat)(i:Nat):zaQ M k v i k=v i:=if_pos rfl
theorem zbp (M:Nat->Nat->Rat){k j:Nat}(h:j≠k)(v:Nat->Rat)(i:Nat):zaQ M k v i j=M i j:=if_neg h
theorem zeJ (M:Nat->Nat->Rat)(k:Nat):zaQ M k (λi=>M i k)=M:=by
 funext i j;unfold zaQ;split
 ·next h=>rw [h]
 ·rfl
theorem zet (M:Nat->Nat->Rat)(k:Nat)(v:Nat->Rat):mnr (zaQ M k v) k=mnr M k:=by
 funext i j;show(if skp k j=k then _ else _)=_;rw [if_neg (skp_ne k j)];rfl
def uns (c k:Nat):Nat:=if k<c then k else k - 1
theorem zmg {c k j:Nat}(h:k≠c):skp c j=k↔j=uns c k:=by unfold skp uns;split<;>split<;>omega
theorem uns_lt {c k n:Nat}(h:k≠c)(hk:k<n+1)(hc:c<n+1):uns c k<n:=by unfold uns;split<;>omega
theorem zjE {M:Nat->Nat->Rat}{c k:Nat}(h:k≠c)(v:Nat->Rat):mnr (zaQ M k v) c=zaQ (mnr M c) (uns c k) (λi=>v (i+1)):=by
 funext i j
 show(if skp c j=k then _ else _)=(if j=uns c k then _ else _)
 by_cases e:j=uns c k
 ·rw [if_pos e,if_pos ((zmg h).2 e)]
 ·rw [if_neg e,if_neg λq=>e ((zmg h).1 q)];rfl
theorem zdd:∀{n:Nat} (M:Nat->Nat->Rat) {k:Nat} (_:k<n) (a b:Rat) (u v:Nat->Rat),zaF n (zaQ M k λi=>a*u i+b*v i)=a*zaF n (zaQ M k u)+b*zaF n (zaQ M k v)
 |n+1,M,k,hk,a,b,u,v=>by
   rw [zaX,zaX,zaX,zaK,zaK,<-zco]
   refine zan λc hc=>?_
   by_cases h:k=c
   ·subst h
    rw [zet,zet,zet]
    simp only [zaQ,if_true]
    grind
   ·rw [zjE h,zjE h,zjE h,zdd (mnr M c) (uns_lt h hk hc) a b (λi=>u (i+1)) (λi=>v (i+1))]
    simp only [zaQ,if_neg (λe:c=k=>h e.symm)]
    grind
theorem zfa {n:Nat}(M:Nat->Nat->Rat){k:Nat}(hk:k<n)(a:Rat)(u:Nat->Rat):zaF n (zaQ M k λi=>a*u i)=a*zaF n (zaQ M k u):=by
 have h:=zdd M hk a 0 u u
 rw [Rat.zero_mul,Rat.add_zero] at h
 rw [<-h]
 congr 2
 funext i
 grind
theorem zfB {n:Nat}(M:Nat->Nat->Rat){k:Nat}(hk:k<n)(f:Nat->Rat)(u:Nat->Nat->Rat):∀q,zaF n (zaQ M k λi=>zaw q λl=>f l*u l i)=zaw q λl=>f l*zaF n (zaQ M k (u l))
 |0=>by
   have:=zfa M hk 0 (λ_=>0)
   have e:(λi:Nat=>(0:Rat)*(λ_=>0) i)=λ_=>0:=by funext i;exact Rat.zero_mul _
   rw [e] at this
   show zaF n (zaQ M k λi=>0)=0
   rw [this,Rat.zero_mul]
 |q+1=>by
   rw [zaL,<-zfB M hk f u q]
   have:=zdd M hk 1 (f q) (λi=>zaw q λl=>f l*u l i) (u q)
   rw [Rat.one_mul] at this
   rw [<-this]
   congr 2
   funext i
   rw [zaL,Rat.one_mul]
theorem zny {f:Nat->Rat}{k:Nat}(h2:f k+f (k+1)=0):∀{n:Nat},k+1<n->(∀c,c<n->c≠k->c≠k+1->f c=0)->zaw n f=0
 |n+1,hk,h1=>by
   rw [zaL]
   by_cases e:n=k+1
   ·subst e
    rw [zaL,zbB λi hi=>h1 i (by omega) (by omega) (by omega),Rat.zero_add,h2]
   ·rw [zny h2 (n:=n) (by omega) (λc hc=>h1 c (by omega)),h1 n (by omega) (by omega) (by omega),Rat.add_zero]
theorem zdV:∀{n:Nat} {M:Nat->Nat->Rat} {k:Nat},k+1<n->(∀i,i<n->M i k=M i (k+1))->zaF n M=0
 |n+1,M,k,hk,h=>by
   rw [zaX]
   have h1:∀c,c<n+1->c≠k->c≠k+1->sg c*M 0 c*zaF n (mnr M c)=0:=λc hc e1 e2=>by
    have:zaF n (mnr M c)=0:=by
     refine zdV (k:=uns c k) ?_ λi hi=>?_
     ·unfold uns;split<;>omega
     ·have a1:skp c (uns c k)=k:=(zmg (Ne.symm e1)).2 rfl
      have a2:skp c (uns c k+1)=k+1:=by unfold skp uns;split<;>split<;>omega
      show M (i+1) (skp c (uns c k))=M (i+1) (skp c (uns c k+1))
      rw [a1,a2];exact h (i+1) (by omega)
    rw [this,Rat.mul_zero]
   have h2:sg k*M 0 k*zaF n (mnr M k)+sg (k+1)*M 0 (k+1)*zaF n (mnr M (k+1))=0:=by
    have:zaF n (mnr M k)=zaF n (mnr M (k+1)):=zaV λi hi j hj=>by
     show M (i+1) (skp k j)=M (i+1) (skp (k+1) j)
     by_cases e:j=k
     ·subst e
      have a1:skp j j=j+1:=by unfold skp;split<;>omega
      have a2:skp (j+1) j=j:=by unfold skp;split<;>omega
      rw [a1,a2];exact(h (i+1) (by omega)).symm
     ·have:skp k j=skp (k+1) j:=by unfold skp;split<;>split<;>omega
      rw [this]
    rw [this,zpL,<-h 0 (by omega)]
    grind
   exact zny (f:=λc=>sg c*M 0 c*zaF n (mnr M c)) h2 (by omega) h1
theorem zqg {n:Nat}(M:Nat->Nat->Rat){k:Nat}(hk:k+1<n)(u v:Nat->Rat):zaF n (zaQ (zaQ M k u) (k+1) v)= -zaF n (zaQ (zaQ M k v) (k+1) u):=by
 have z:∀x:Nat->Rat,zaF n (zaQ (zaQ M k x) (k+1) x)=0:=λx=>zdV hk λi _=>by
  rw [zbp _ (by omega),zbk,zbk]
 have sw:∀x y:Nat->Rat,zaQ (zaQ M k x) (k+1) y=zaQ (zaQ M (k+1) y) k x:=λx y=>by
  funext i j;simp only [zaQ];by_cases a:j=k+1
  ·rw [if_pos a,if_neg (by omega),if_pos a]
  ·rw [if_neg a];by_cases b:j=k
   ·rw [if_pos b,if_pos b]
   ·rw [if_neg b,if_neg b,if_neg a]
 have e1:=z (λi=>1*u i+1*v i)
 rw [zdd _ hk,sw,sw,zdd _ (by omega:k<n),zdd _ (by omega:k<n),<-sw,<-sw,<-sw,<-sw,z,z] at e1
 grind
theorem zhN:∀(d:Nat) {n:Nat} {M:Nat->Nat->Rat} {k:Nat},k+1+d<n->(∀i,i<n->M i k=M i (k+1+d))->zaF n M=0
 |0,n,M,k,hk,h=>zdV hk h
 |d+1,n,M,k,hk,h=>by
   have e:M=zaQ (zaQ M (k+1+d) λi=>M i (k+1+d)) (k+1+d+1) λi=>M i (k+1+d+1):=by rw [zeJ,zeJ]
   rw [e,zqg M (by omega),zhN d (k:=k) (by omega),Rat.neg_zero]
   intro i hi
   rw [zbp _ (by omega),zbp _ (by omega),zbp _ (by omega),zbk]
   exact h i hi
theorem zfb {n:Nat}{M:Nat->Nat->Rat}{k l:Nat}(hk:k<n)(hl:l<n)(hne:k≠l):zaF n (zaQ M k λi=>M i l)=0:=by
 rcases Nat.lt_or_ge k l with h|h
 ·obtain⟨d,rfl⟩:∃d,l=k+1+d:=⟨l - k - 1,by omega⟩
  exact zhN d (by omega) λi _=>by rw [zbk,zbp _ (by omega)]
 ·obtain⟨d,rfl⟩:∃d,k=l+1+d:=⟨k - l - 1,by omega⟩
  exact zhN d (k:=l) (by omega) λi _=>by rw [zbp _ (by omega),zbk]
theorem zfz:∀(n:Nat) {M:Nat->Nat->Rat},(∀i,i<n->M i n=0)->zaF (n+1) M=M n n*zaF n M
 |0,M,_=>by
   show zaw 1 _=_
   rw [zaL,zhX]
   show 0+1*M 0 0*1=M 0 0*1
   grind
 |n+1,M,h=>by
   rw [zaX,zaL,h 0 (by omega),Rat.mul_zero,Rat.zero_mul,Rat.add_zero,zaX n,zaK]
   refine zan λc hc=>?_
   rw [zfz n (M:=mnr M c) (λi hi=>by
    show M (i+1) (skp c n)=0
    rw [show skp c n=n+1 by unfold skp;split<;>omega];exact h (i+1) (by omega))]
   have:mnr M c n n=M (n+1) (n+1):=by show M (n+1) (skp c n)=_;rw [show skp c n=n+1 by unfold skp;split<;>omega]
   rw [this]
   grind
