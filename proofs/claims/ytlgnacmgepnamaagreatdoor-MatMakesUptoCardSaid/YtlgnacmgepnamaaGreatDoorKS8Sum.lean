/- What this claim leans on. -/
import Derived.Test.YtlgnacmgepnamaaGreatDoorKJ8Make
import Derived.Test.YtlgnacmgepnamaaGreatDoorKJ8Add
import Derived.Test.YtlgnacmgepnamaaGreatDoorKJ8Mul
import Derived.Test.YtlgnacmgepnamaaGreatDoorKJ8Ord
namespace Go.Proofs.YtlgnacmgepnamaaGreatDoor
open Go Go.RowKit
set_option maxHeartbeats 16000000
set_option maxRecDepth 100000
set_option linter.unusedVariables false
set_option linter.unusedSimpArgs false
structure zhH (w:World)(A:oA9)(n c:Nat)(rs:List Rat):Prop where
 len:rs.length=n
 fits:n<=c
 most:c<=9223372036854775807
 num:∀i,i<n->∃(ad:Addr) (b:Bool) (B:oA9) (m d:Nat) (E:oA9) (u v:Nat),A=some ad/\ad.block<w.heap.size/\w.cell? (ad.add (i*3))=some (.bool b)/\w.cell? (ad.add (i*3+1))=some (.slice B m d)/\w.cell? (ad.add (i*3+2))=some (.slice E u v)/\zan w (rs.getD i 0) b B m d E u v
theorem zhH.below {w w':World}{A:oA9}{n c:Nat}{rs:List Rat}(h:zhH w A n c rs)(hb:Below w.heap.size w w'):zhH w' A n c rs:=
 ⟨h.len,h.fits,h.most,λi hi=>by
  obtain⟨ad,b,B,m,d,E,u,v,e,h1,h2,h3,h4,h5⟩:=h.num i hi
  exact⟨ad,b,B,m,d,E,u,v,e,Nat.lt_of_lt_of_le h1 hb.size,zad hb h2,zad hb h3,zad hb h4,h5.below hb⟩⟩
def zhq (rs:List Rat):Rat:=rs.foldl (λa b=>a+b) 0
theorem zpL (rs:List Rat)(r:Rat):zhq (rs++[r])=zhq rs+r:=by unfold zhq;rw [List.foldl_append];rfl
theorem zpM (rs:List Rat)(k:Nat)(h:k<rs.length):zhq (rs.take (k+1))=zhq (rs.take k)+rs.getD k 0:=by
 rw [List.take_succ_eq_append_getElem h,zpL,List.getD_eq_getElem?_getD,List.getElem?_eq_getElem h]
 rfl
theorem znt {w:World}{r:Rat}{b:Bool}{A E:oA9}{n c k f g:Nat}{t:TypeId}{p:Bool}{q q2:oA9}{r1 s r2 s2:Nat}(h:zan w r b A n c E k f)(kd:Blk w g t #[.bool p,.slice q r1 s,.slice q2 r2 s2])(x y z:Value):
  zan (((w.setCell ⟨g,0,none⟩ x).setCell ⟨g,1,none⟩ y).setCell ⟨g,2,none⟩ z) r b A n c E k f:=zhV h kd (NoU.s3 _ _ _ _ _ _ _) (off3 _ _ _ _ _)
theorem blk_far3 {w:World}{g g':Nat}{t:TypeId}{cs:Array Value}(h:Blk w g t cs)(hne:g≠g')(x y z:Value):Blk (((w.setCell ⟨g',0,none⟩ x).setCell ⟨g',1,none⟩ y).setCell ⟨g',2,none⟩ z) g t cs:=((h.far (p:=⟨g',0,none⟩) hne x).far (p:=⟨g',1,none⟩) hne y).far (p:=⟨g',2,none⟩) hne z
theorem cell_q1 {w:World}{ad:Addr}{k:Nat}{v:Value}(h:w.cell? (ad.add (k+1))=some v):w.cell? ⟨(ad.add k).block,(ad.add k).off+1,none⟩=some v:=by
 rw [<-Go.Deep.add_add] at h
 exact h
theorem cell_q2 {w:World}{ad:Addr}{k:Nat}{v:Value}(h:w.cell? (ad.add (k+2))=some v):w.cell? ⟨(ad.add k).block,(ad.add k).off+2,none⟩=some v:=by
 rw [<-Go.Deep.add_add] at h
 exact h
theorem rat_sum (rs:List Rat)(A:oA9)(n c K:Nat)(w:World)(hT:zal w)(h:zhH w A n c rs)(hn:n<=1073741824)(hK:K<=67108864)(he:∀i,i<n->SzQ K (rs.getD i 0))(hs:∀k,k<=n->SzQ K (zhq (rs.take k))):
  Calls Tryz.prog 64 #[.slice A n c] w (zaJ w (zhq rs)):=by
 have HTB:=lh9 (λw' (h:Below w.heap.size w w')=>hT.on h)
 have HN:=lh9 (λw' (hb:Below w.heap.size w w')=>h.below hb)
 have HS:=lh9 hs
 have HE:=lh9 he
 have HSU:=lh9 (λk (hk:k<n)=>zpM rs k (by rw [h.len];exact hk))
 have HF:Hid (zhq (rs.take n)=zhq rs):=by
  show _=_
  rw [List.take_of_length_le (by rw [h.len];exact Nat.le_refl _)]
 clear h hs he hT
 go_enter Tryz.func64,Tryz.ntmps64
 go_wp2_with fail
 obtain⟨hB,hk1,hp,b5⟩:=zbe w 48 48 #[.bool false,.slice none 0 0,.slice none 0 0] #[.bool false,.slice none 0 0,.slice none 0 0]
 generalize hV:(w.alloc (.cells #[.bool false,.slice none 0 0,.slice none 0 0] 48)).alloc (.cells #[.bool false,.slice none 0 0,.slice none 0 0] 48)=V1 at*
 clear hV b5
 obtain⟨gp,hgp⟩:∃g,w.heap.size+1=g:=⟨_,rfl⟩
 rw [hgp] at hp⊢
 have hgw:w.heap.size<gp:=by omega
 go_loopg [9] (n+1) (λg ix wr=>∃(k:Nat) (b:Bool) (Ap:oA9) (np cp:Nat) (Ep:oA9) (kp fp:Nat),k<=n/\n<g+k/\ix=.int .i64 k/\zan wr (zhq (rs.take k)) b Ap np cp Ep kp fp/\Blk wr gp 48 #[.bool b,.slice Ap np cp,.slice Ep kp fp]/\Below w.heap.size w wr/\Blk wr w.heap.size 48 #[.bool false,.slice none 0 0,.slice none 0 0])
 case atStart=>exact⟨0,false,none,0,0,none,0,0,Nat.zero_le _,by omega,rfl,zhi _,hp,hB,hk1⟩
 case round=>
  clear hp hB hk1 hgp
  obtain⟨k,b,Ap,np,cp,Ep,kp,fp,hkn,hg,rfl,hw,hp,hB,hk1⟩:=hrel
  by_cases hlt:k<n
  ·obtain⟨ad,b1,B1,m1,d1,E1,u1,v1,rfl,hadb,hc0,hc1,hc2,hx⟩:=(HN.out _ hB).num k hlt
   have HM:=lh9 (λw' (hb:Below wr.heap.size wr w')=>zos (zhq (rs.take k)) (rs.getD k 0) b Ap np cp Ep kp fp b1 B1 m1 d1 E1 u1 v1 w' (HTB.out _ (zac hB hb)) (hw.below hb) (hx.below hb) (SzQ.fit (HS.out k hkn) hw hK) (SzQ.fit (HE.out k hlt) hx hK))
   have hc1:=cell_q1 hc1
   have hc2:=cell_q2 hc2
   have i1:(0:Int)<=(k:Int):=by omega
   have i2:(k:Int)<(n:Int):=by omega
   obtain⟨p0,p1,p2⟩:=hp.c3
   obtain⟨st,d2,d3⟩:=zaA wr 48 #[.bool b1,.slice B1 m1 d1,.slice E1 u1 v1]
   obtain⟨q0,q1,q2⟩:=d2.c3
   have p3:=zad st p0
   have p4:=zad st p1
   have p5:=zad st p2
   have HM2:=lh9 (HM.out _ st)
   have HB1:=lh9 (zac hB st)
   have HP1:=lh9 (zae st hp)
   have HK2:=lh9 (zae st hk1)
   clear hw hx hB hp hk1 HM st d2 d3
   go_wp2_with fail
   refine HM2.out.mono ?_
   rintro e w3 ⟨b3,A3,n3,c3,E3,k3,f3,rfl,hw3,hb⟩
   rw [<-HSU.out k hlt] at hw3
   have hB3:=zac HB1.out hb
   have hp3:=zae hb HP1.out
   have hk3:=zae hb HK2.out
   obtain⟨sc0,sf0,sc1,sf1,sc2,sf2⟩:=st3 hp3 (.bool b3) (.slice A3 n3 c3)
   have hw4:=znt hw3 hp3 (.bool b3) (.slice A3 n3 c3) (.slice E3 k3 f3)
   have hB4:=bl3 (.bool b3) (.slice A3 n3 c3) (.slice E3 k3 f3) (by show w.heap.size<=gp;omega) hB3
   have hp4:=sn3 hp3 (.bool b3) (.slice A3 n3 c3) (.slice E3 k3 f3)
   have hk4:=blk_far3 hk3 (by show w.heap.size≠gp;omega) (.bool b3) (.slice A3 n3 c3) (.slice E3 k3 f3)
   clear hb hB3 hp3 hk3 hw3 HM2 HB1 HP1 HK2 hc0 hc1 hc2 p0 p1 p2 p3 p4 p5 q0 q1 q2
   go_wp2
   go_roundg (n - k)
   case measure=>omega
   case rel=>exact⟨k+1,b3,A3,n3,c3,E3,k3,f3,by omega,by omega,by go_num,hw4,hp4,hB4,hk4⟩
  ·have hkn:k=n:=by omega
   subst hkn
   rw [HF.out] at hw
   obtain⟨p0,p1,p2⟩:=hp.c3
   obtain⟨sc0,sf0,sc1,sf1,sc2,sf2⟩:=st3 hk1 (.bool b) (.slice Ap np cp)
   obtain⟨r0,r1,r2⟩:=(sn3 hk1 (.bool b) (.slice Ap np cp) (.slice Ep kp fp)).c3
   have HG:=lh9 (gq3 hw hk1 hB (Nat.le_refl _))
   clear hw hp hk1 hB
   go_wp2
   refine bodyPost_ret (v:=.agg #[.bool b,.slice Ap np cp,.slice Ep kp fp]) (by simp [results,Tryz.results64,go_sem,r0,r1,r2]) rfl ?_
   exact HG.out
theorem zhy (p:Int)(w:World)(hT:zal w)(hp1: -9223372036854775808<=p)(hp2:p<=9223372036854775807):
  Calls Tryz.prog 26 #[.int .i64 p] w (zaJ w (p:Rat)):=by
 have HIC:=lh9 (zbJ (T:=zal))
 have HT:=lh9 (λw' (hb:Below w.heap.size w w')=>hT.on hb)
 have HTB:=HT
 obtain⟨K,hKe⟩:∃K,67108864=K:=⟨_,rfl⟩
 have hKK:K<=67108864:=by omega
 have hK0:0<K:=by omega
 clear hT hKe
 go_enter Tryz.func26,Tryz.ntmps26
 have hB:=Below.refl w.heap.size w
 obtain⟨bx1,bx2,bz⟩:=zaA w 48 #[.bool false,.slice none 0 0,.slice none 0 0]
 have hB:=zac hB bx1
 have k1:=bx2
 clear bx1 bx2 bz
 go_wp2_with fail
 generalize w.alloc (.cells #[.bool false,.slice none 0 0,.slice none 0 0] 48)=W1 at*
 have HZ2:Hid (Sz (1) (p).natAbs):=(by show Int.natAbs p<18446744073709551616^1;have e1: -9223372036854775808<=p:=hp1;have e2:p<=9223372036854775807:=hp2;omega)
 (with_reducible refine(HIC.out.of p _ (HT.out _ hB) hp1 hp2).mono ?_)
 rintro e wc2 ⟨b2,B2,m2,d2,rfl,hw2,hb⟩
 have hB:=zac hB hb
 have k1:=zae hb k1
 have HN2:=lh9 hw2
 clear hb hw2
 obtain⟨sc0,sf0,sc1,sf1,sc2,sf2⟩:=st3 k1 (.bool b2) (.slice B2 m2 d2)
 obtain⟨r0,r1,r2⟩:=(sn3 k1 (.bool b2) (.slice B2 m2 d2) (.slice none 0 0)).c3
 have HG:=lh9 (gq3 (zfk HN2.out) k1 hB (by omega))
 go_wp2
 refine bodyPost_ret (v:=.agg #[.bool b2,.slice B2 m2 d2,.slice none 0 0]) (by simp [results,Tryz.results26,go_sem,r0,r1,r2]) rfl ?_
 exact HG.out
section
variable {K K':Nat}{x y:Rat}{b b':Bool}{A A':oA9}{n n' c c':Nat}{E E':oA9}{k k' f f':Nat}{w:World}
theorem q_mul (hT:zal w)(h:zan w x b A n c E k f)(h':zan w y b' A' n' c' E' k' f')(z:SzQ K x)(z':SzQ K' y)(hK:K<=67108864:=by omega)(hK':K'<=67108864:=by omega):
  Calls Tryz.prog 138 #[.agg #[.bool b,.slice A n c,.slice E k f],.agg #[.bool b',.slice A' n' c',.slice E' k' f']] w (zaJ w (x*y)):=rat_mul x y b A n c E k f b' A' n' c' E' k' f' w hT h h' (z.fit h hK) (z'.fit h' hK')
theorem q_cmp (hT:zal w)(h:zan w x b A n c E k f)(h':zan w y b' A' n' c' E' k' f')(z:SzQ K x)(z':SzQ K' y)(hK:K<=67108864:=by omega)(hK':K'<=67108864:=by omega):
  Calls Tryz.prog 121 #[.agg #[.bool b,.slice A n c,.slice E k f],.agg #[.bool b',.slice A' n' c',.slice E' k' f']] w (zbK w (zfL x y)):=zot x y b A n c E k f b' A' n' c' E' k' f' w hT h h' (z.fit h hK) (z'.fit h' hK')
theorem q_same {t:Bool}(e:decide (x=y)=t)(hT:zal w)(h:zan w x b A n c E k f)(h':zan w y b' A' n' c' E' k' f')(z:SzQ K x)(z':SzQ K' y)(hK:K<=67108864:=by omega)(hK':K'<=67108864:=by omega):
  Calls Tryz.prog 43 #[.agg #[.bool b,.slice A n c,.slice E k f],.agg #[.bool b',.slice A' n' c',.slice E' k' f']] w (λe w'=>e=.returned (.bool t)/\Below w.heap.size w w'):=zax e (zlX x y b A n c E k f b' A' n' c' E' k' f' w hT h h' (z.fit h hK) (z'.fit h' hK'))
theorem znp {t:Bool}(e:decide (x=0)=t)(hT:zal w)(h:zan w x b A n c E k f)(z:SzQ K x)(hK:K<=67108864:=by omega):
  Calls Tryz.prog 25 #[.agg #[.bool b,.slice A n c,.slice E k f]] w (λe w'=>e=.returned (.bool t)/\Below w.heap.size w w'):=zax e (zaZ x b A n c E k f w hT h (z.fit h hK))
end
theorem en_mul:∀(args:Array Value) (w':World),Sem.run Tryz.prog (callFunc 138 args) w'=.ok (.enter 138 args) w':=Go.Proofs.enters_of Tryz.func138 (by kernel_rfl) rfl
theorem zaK.rats {w:World}{A:oA9}{n c:Nat}{xs:List Rat}(h:zaK w A n c xs):zhH w A n c xs:=⟨h.len,h.fits,h.most,λi hi=>h.at_ hi 0⟩
theorem sum_is (rs:List Rat):zhq rs=zdp rs:=rfl
theorem q_sum {K n c:Nat}{A:oA9}{xs:List Rat}{w:World}(hT:zal w)(h:zaK w A n c xs)(hx:zaE K xs)(hn:n<=1073741824)(hK:1+n*(K+1)<=67108864):
  Calls Tryz.prog 64 #[.slice A n c] w (zaJ w (zdp xs)):=by
 have hl:=h.len
 have e:=sum_is xs
 rw [<-e]
 refine rat_sum xs A n c (1+n*(K+1)) w hT h.rats hn hK (λi hi=>(hx.at_ (by omega)).up ?_) (λk hk=>?_)
 ·have:K+1<=n*(K+1):=Nat.le_mul_of_pos_left _ (by omega)
  omega
 ·rw [sum_is]
  exact take_sz hx hl k hk
theorem zmo {w:World}{g:Nat}{t:TypeId}{x:Rat}{b:Bool}{A:oA9}{n c:Nat}{E:oA9}{k f:Nat}(h:Blk w g t #[.bool b,.slice A n c,.slice E k f])(hx:zan w x b A n c E k f):zaK w (some ⟨g,0,none⟩) 1 1 [x]:=
 ⟨rfl,Nat.le_refl _,by decide,λi y hi=>by
  have h0:i=0:=by
   have:=(List.getElem?_eq_some_iff.1 hi).1
   simpa using this
  subst h0
  obtain rfl:x=y:=by simpa using hi
  exact⟨_,b,A,n,c,E,k,f,rfl,h.lt,by rw [zaM];exact h.cell 0,by rw [zaM];exact h.cell 1,by rw [zaM];exact h.cell 2,hx⟩⟩
def zgG (u:Value):Prop:=∀k z,u≠.int k z
def zbx (w:World)(v:Value):Prop:=∀g,v.ownBlock=some g->∃(cur:Array Value) (e:TypeId),w.heap[g]?=some (.cells cur e (0,0))/\∀u ∈ cur.toList,zgG u
theorem zbx.nil (w:World)(c:Nat):zbx w (.slice none 0 c):=λg h=>by simp [Value.ownBlock] at h
theorem zbx.block {w w':World}{v:Value}(h:zbx w v)(hg:∀g,v.ownBlock=some g->w'.heap[g]?=w.heap[g]?):zbx w' v:=λg e=>by
 obtain⟨cur,t,h1,h2⟩:=h g e
 exact⟨cur,t,(hg g e).trans h1,h2⟩
theorem zbx.below {w w':World}{v:Value}(h:zbx w v)(hb:Below w.heap.size w w'):zbx w' v:=λg e=>by
 obtain⟨cur,t,h1,h2⟩:=h g e
 exact⟨cur,t,(hb.block g (Array.getElem?_eq_some_iff.1 h1).1).trans h1,h2⟩
theorem ziO {z:Array Value}{k:Nat}{u:Value}(hz:0<z.size)(hu:u ∈(Builtin.zeroCells z k).toList):u ∈ z.toList:=by
 unfold Builtin.zeroCells at hu
 rw [Array.mem_toList_iff,Array.mem_map] at hu
 obtain⟨i,_,rfl⟩:=hu
 have hlt:i%z.size<z.size:=Nat.mod_lt _ hz
 rw [getElem!_pos z (i%z.size) hlt,Array.mem_toList_iff]
 exact Array.getElem_mem hlt
section
variable {P:Program}(w:World)
theorem zfg (base:Nat)(t ty e:TypeId)(i:TypeInfo)(z:Value)(size bytes:Nat)(ht:P.underlying t=some (.slice e))(hi:P.info? e=some i)(hz:i.zero=some z)
  (hsize:i.size=size) (hby:i.bytes=bytes) (hzs:z.cells.size=size) (hsz:0<size)
  (v:Value) (n:Nat) (xs:List Value) (hown:w.ownsRow base e size v n xs)
  (a:Addr) (m c:Nat) (news:List Value) (hl:news.length=m*size) (hnews:∀j u,news[j]?=some u->w.cell? (a.add j)=some u) (h1:∀u ∈ news,u.oneCell'=true)
  (h63:n+m<=maxLen) (hbytes:(n+m)*bytes<=140737488355328) (hbase:base<=w.heap.size)
  (hv:zbx w v) (hzn:∀u ∈ z.cells.toList,zgG u) (hnn:∀u ∈ news,zgG u):
  ∃ v' w',(Builtin.append_ #[t,t] ty #[v,.slice (some a) m c]).run P w = .ok v' w' ∧ w'.ownsRow base e size v' (n + m) (xs ++ news) ∧ w.grownBy w' v.ownBlock ∧
   (v'.ownBlock=v.ownBlock\/v'.ownBlock=some w.heap.size)/\zbx w' v':=by
 subst hsize
 subst hby
 have hsmall:n+m<=9223372036854775807:=by simp only [maxLen] at h63;omega
 have hlen:(xs++news).length=(n+m)*i.size:=by rw [List.length_append,hown.1,hl,Nat.add_mul]
 have grown : ∀ (old : Nat),old < n + m → (∀ u ∈ xs,zgG u) → ∀ (row : Option Nat),
   (w.drew.alloc (.cells (xs.toArray ++ news.toArray ++ Builtin.zeroCells z.cells (grownCap w (n + m) old e - (n + m))) e)).ownsRow base e i.size
     (.slice (some ⟨w.heap.size,0,none⟩) (n+m) (grownCap w (n+m) old e)) (n+m) (xs++news)/\
   w.grownBy (w.drew.alloc (.cells (xs.toArray++news.toArray++Builtin.zeroCells z.cells (grownCap w (n+m) old e - (n+m))) e)) row/\
   zbx (w.drew.alloc (.cells (xs.toArray++news.toArray++Builtin.zeroCells z.cells (grownCap w (n+m) old e - (n+m))) e)) (.slice (some ⟨w.heap.size,0,none⟩) (n+m) (grownCap w (n+m) old e)):=by
  intro old ho hxs row
  have hge:=grownCap_ge w (n+m) old e
  have hcm:grownCap w (n+m) old e<=maxLen:=grownCap_le_maxLen w (n+m) old e h63
  refine⟨⟨hlen,.inr ⟨w.heap.size,_,_,rfl,hbase,heap_alloc_new w.drew _,hge,hcm,?_,?_⟩⟩,⟨rfl,rfl,rfl,by simp,λk hk _=>heap_alloc_old w.drew _ hk⟩,?_⟩
  ·simp only [Array.size_append,List.size_toArray,size_zeroCells,hzs,hown.1,hl,<-Nat.add_mul]
   congr 1
   omega
  ·simp only [Array.toList_append,List.append_assoc]
   rw [<-List.append_assoc,<-hlen]
   exact List.take_left
  ·intro g hg
   simp [Value.ownBlock] at hg
   subst hg
   refine⟨_,_,heap_alloc_new w.drew _,λu hu=>?_⟩
   simp only [Array.toList_append,List.mem_append] at hu
   rcases hu with(hu|hu)|hu
   ·exact hxs u hu
   ·exact hnn u hu
   ·exact hzn u (ziO (by omega) hu)
 rcases hown.2 with⟨rfl,rfl⟩|⟨g,cap,cur,rfl,hbg,hg,hnc,hcm,hcs,htake⟩
 ·have hx:xs=[]:=List.eq_nil_of_length_eq_zero (by simpa using hown.1)
  subst hx
  by_cases hm:m=0
  ·subst hm
   have hn:news=[]:=List.eq_nil_of_length_eq_zero (by simpa using hl)
   subst hn
   refine⟨.slice none 0 0,w,?_,World.ownsRow_nil w base e i.size,⟨rfl,rfl,rfl,Nat.le_refl _,λ_ _ _=>rfl⟩,Or.inl rfl,zbx.nil _ _⟩
   simp [Builtin.append_,run_underlying ht,sizeOf,typeInfo,hi,Builtin.lenOf,Builtin.firstCells,loadCells,loadCellsFrom]
  ·have hr:=run_append_nil (P:=P) w t ty e i z ht hi hz a m c news hl hnews (by omega) (by omega) (by have hb:=hbytes;simp only [Nat.zero_add] at hb;omega)
   have hgr:=grown 0 (by omega) (λu hu=>by cases hu) (Value.ownBlock (.slice none 0 0))
   simp only [Nat.zero_add,List.nil_append,Array.empty_append] at hgr⊢
   exact⟨_,_,hr,hgr.1,hgr.2.1,Or.inr rfl,hgr.2.2⟩
 ·obtain⟨cur2,e2,hg2,hcn⟩:=hv g rfl
  have hcur:cur2=cur:=by
   rw [hg] at hg2
   injection hg2 with hg2
   injection hg2 with hg2
   exact hg2.symm
  subst hcur
  by_cases hroom:n+m<=cap
  ·have hfit:n*i.size+news.length<=cur2.size:=by rw [hl,hcs,<-Nat.add_mul];exact Nat.mul_le_mul_right _ hroom
   have hr:=run_append_room (P:=P) w t ty e i ht hi g n cap cur2 hg a m c news hl hnews h1 hroom hfit
   refine⟨_,_,hr,⟨hlen,.inr ⟨g,cap,_,rfl,hbg,setRow_heap w g cur2 _ e _ hg,hroom,hcm,?_,?_⟩⟩,⟨rfl,rfl,rfl,by simp,λk _ hk=>setRow_other w g k _ (λe=>hk (by simp [Value.ownBlock,e]))⟩,Or.inl rfl,?_⟩
   ·simp only [List.size_toArray,List.length_append,List.length_take,List.length_drop,Array.length_toList]
    omega
   ·rw [htake,<-hlen]
    exact List.take_left
   ·intro g' hg'
    simp [Value.ownBlock] at hg'
    subst hg'
    refine⟨_,_,setRow_heap w g cur2 _ e _ hg,λu hu=>?_⟩
    rw [List.mem_append,List.mem_append] at hu
    rcases hu with(hu|hu)|hu
    ·exact hcn u (List.mem_of_mem_take hu)
    ·exact hnn u hu
    ·exact hcn u (List.mem_of_mem_drop hu)
  ·have holds:∀j u,xs[j]?=some u->w.cell? ((⟨g,0,none⟩:Addr).add j)=some u:=hown.cells (g:=g) rfl
   have hr:=run_append_grow (P:=P) w t ty e i z ht hi hz ⟨g,0,none⟩ n cap xs hown.1 holds a m c news hl hnews (by omega) (by omega) (growslice_fits (by omega) hbytes)
   have hxs:∀u ∈ xs,zgG u:=λu hu=>hcn u (List.mem_of_mem_take (by rw [htake];exact hu))
   have hgr:=grown cap (by omega) hxs (Value.ownBlock (.slice (some ⟨g,0,none⟩) n cap))
   exact⟨_,_,hr,hgr.1,hgr.2.1,Or.inr rfl,hgr.2.2⟩
theorem zcR {ops:Array Oper}{rest:List Oper}{o:Oper}{a:Act}{Q:Exit->Act->World->Prop}(hgd:o.guard=none)(s x:Operand)(t:TypeId)
  (ho:o.op=.call {callee:=.builtin .append,args:=#[s,x],argTypes:=#[t,t]})
  (base:Nat) (e:TypeId) (i:TypeInfo) (z:Value) (size bytes:Nat) (ht:P.underlying t=some (.slice e)) (hi:P.info? e=some i) (hz:i.zero=some z)
  (hsize:i.size=size) (hby:i.bytes=bytes) (hzs:z.cells.size=size) (hsz:0<size)
  (v:Value) (n:Nat) (xs:List Value) (hs:a.eval s=v) (hown:w.ownsRow base e size v n xs)
  (ad:Addr) (m c:Nat) (news:List Value) (hx:a.eval x=.slice (some ad) m c) (hl:news.length=m*size) (hnews:∀j u,news[j]?=some u->w.cell? (ad.add j)=some u) (h1:∀u ∈ news,u.oneCell'=true)
  (h63:n+m<=maxLen) (hbytes:(n+m)*bytes<=140737488355328) (hbase:base<=w.heap.size)
  (hv:zbx w v) (hzn:∀u ∈ z.cells.toList,zgG u) (hnn:∀u ∈ news,zgG u)
  (h:∀v' w',w'.ownsRow base e size v' (n+m) (xs++news)->w.grownBy w' v.ownBlock->(v'.ownBlock=v.ownBlock\/v'.ownBlock=some w.heap.size)->zbx w' v'->wpList P ops Q rest (a.put o.dst v') w'):
  wpList P ops Q (o::rest) a w:=by
 refine wpList_plain hgd λK hK=>?_
 obtain⟨v',w',hr,h2,h3,h4,h5⟩:=zfg (P:=P) w base t o.type e i z size bytes ht hi hz hsize hby hzs hsz v n xs hown ad m c news hl hnews h1 h63 hbytes hbase hv hzn hnn
 unfold Oper.wp execOp
 simp only [ho,resolve,invoke,builtin,Sem.run_bind,Sem.run_pure,Result.andThen_ok,List.map_toArray,List.map_cons,List.map_nil,hs,hx,hr]
 exact hK _ _ (h v' w' h2 h3 h4 h5)
end
theorem zbx.blk {w:World}{v:Value}{g:Nat}(h:zbx w v)(hg:v.ownBlock=some g):∃(t:TypeId) (cs:Array Value),Blk w g t cs/\NoU cs:=by
 obtain⟨cur,e,h1,h2⟩:=h g hg
 exact⟨e,cur,h1,λu hu k z=>h2 u hu k z⟩
theorem zdB.grown {α:Type}{E:El α}(hE:zdB E){w w':World}{v:Value}{x:α}{b:Bool}{A:oA9}{n c:Nat}{F:oA9}{k f:Nat}(h:E w x b A n c F k f)(hg:w.grownBy w' v.ownBlock)(hn:zbx w v):E w' x b A n c F k f:=by
 cases hv:v.ownBlock with
 |none=>rw [hv] at hg;exact hE.below h (zdC hg)
 |some g=>
   rw [hv] at hg
   obtain⟨t,cs,hk,hc⟩:=hn.blk hv
   exact hE.offg h hk hc (zcx.of_grown hg)
theorem zbt {w w':World}{g:Nat}{t:TypeId}{cs:Array Value}{row:Option Nat}(h:Blk w g t cs)(hg:w.grownBy w' row)(hne:row≠some g):Blk w' g t cs:=(hg.block g (Blk.lt h) (λe=>hne e.symm)).trans h
structure zcT {α:Type}(E:El α)(w:World)(base:Nat)(t:TypeId)(v:Value)(xs:List α)(vs:List Value):Prop where
 own:w.ownsRow base t 3 v xs.length vs
 nou:zbx w v
 num:∀i x,xs[i]?=some x->∃(b:Bool) (B:oA9) (m d:Nat) (F:oA9) (u f:Nat),vs[i*3]?=some (.bool b)/\vs[i*3+1]?=some (.slice B m d)/\vs[i*3+2]?=some (.slice F u f)/\E w x b B m d F u f
section
variable {α:Type}{E:El α}
theorem zcT.nil (w:World)(base:Nat)(t:TypeId):zcT E w base t (.slice none 0 0) [] []:=⟨World.ownsRow_nil _ _ _ _,zbx.nil _ _,λi x hi=>by simp at hi⟩
theorem zcT.len {w:World}{base:Nat}{t:TypeId}{v:Value}{xs:List α}{vs:List Value}(h:zcT E w base t v xs vs):vs.length=xs.length*3:=h.own.1
theorem zcT.shape {w:World}{base:Nat}{t:TypeId}{v:Value}{xs:List α}{vs:List Value}(h:zcT E w base t v xs vs):∃A c,v=.slice A xs.length c/\zaB E w A xs.length c xs/\∀ad,A=some ad->base<=ad.block:=by
 rcases h.own.2 with⟨rfl,h0⟩|⟨g,cap,cur,rfl,hbg,hg,hnc,hcm,hcs,htake⟩
 ·have hx:xs=[]:=List.eq_nil_of_length_eq_zero h0
  subst hx
  exact⟨none,0,rfl,zaB.nil w,λad e=>by cases e⟩
 ·have hcell:=h.own.cells (g:=g) rfl
  refine⟨some ⟨g,0,none⟩,cap,rfl,⟨rfl,hnc,by unfold maxLen at hcm;omega,λi x hi=>?_⟩,λad e=>by injection e with e;subst e;exact hbg⟩
  obtain⟨b,B,m,d,F,u,f,h1,h2,h3,h4⟩:=h.num i x hi
  exact⟨_,b,B,m,d,F,u,f,rfl,(Array.getElem?_eq_some_iff.1 hg).1,hcell _ _ h1,hcell _ _ h2,hcell _ _ h3,h4⟩
theorem zcT.below (hE:zdB E){w w':World}{base:Nat}{t:TypeId}{v:Value}{xs:List α}{vs:List Value}(h:zcT E w base t v xs vs)(hb:Below w.heap.size w w'):zcT E w' base t v xs vs:=by
 refine⟨⟨h.own.1,?_⟩,h.nou.below hb,λi x hi=>?_⟩
 ·rcases h.own.2 with h1|⟨g,cap,cur,e1,e2,e3,e4⟩
  ·exact .inl h1
  ·exact .inr ⟨g,cap,cur,e1,e2,(hb.block g (Blk.lt (t:=t) (cs:=cur) e3)).trans e3,e4⟩
 ·obtain⟨b,B,m,d,F,u,f,h1,h2,h3,h4⟩:=h.num i x hi
  exact⟨b,B,m,d,F,u,f,h1,h2,h3,hE.below h4 hb⟩
theorem zcT.grow (hE:zdB E){w w':World}{base n:Nat}{t:TypeId}{v v':Value}{xs:List α}{vs:List Value}{x:α}{b:Bool}{B F:oA9}{m d u f:Nat}(h:zcT E w base t v xs vs)(hx:E w x b B m d F u f)
  (ho:w'.ownsRow base t 3 v' n (vs++[.bool b,.slice B m d,.slice F u f])) (hn:n=xs.length+1) (hg:w.grownBy w' v.ownBlock) (hnu:zbx w' v'):zcT E w' base t v' (xs++[x]) (vs++[.bool b,.slice B m d,.slice F u f]):=by
 have hl:=h.len
 refine⟨by rw [List.length_append,List.length_singleton,<-hn];exact ho,hnu,λi y hi=>?_⟩
 by_cases hlt:i<xs.length
 ·rw [List.getElem?_append_left hlt] at hi
  obtain⟨b1,B1,m1,d1,F1,u1,f1,h1,h2,h3,h4⟩:=h.num i y hi
  exact⟨b1,B1,m1,d1,F1,u1,f1,by rw [List.getElem?_append_left (by omega)];exact h1,by rw [List.getElem?_append_left (by omega)];exact h2,by rw [List.getElem?_append_left (by omega)];exact h3,hE.grown h4 hg h.nou⟩
 ·rw [List.getElem?_append_right (by omega)] at hi
  have hi2:i=xs.length:=by
   have:=(List.getElem?_eq_some_iff.1 hi).1
   simp at this
   omega
  subst hi2
  obtain rfl:x=y:=by
   rw [Nat.sub_self] at hi
   injection hi
  exact⟨b,B,m,d,F,u,f,by rw [List.getElem?_append_right (by omega),hl,Nat.sub_self];rfl,by rw [List.getElem?_append_right (by omega),hl,Nat.add_sub_cancel_left];rfl,by rw [List.getElem?_append_right (by omega),hl,Nat.add_sub_cancel_left];rfl,hE.grown hx hg h.nou⟩
end
theorem ziY {P:Program}(w:World){o:Oper}{a:Act}{K:Act->World->Prop}{Q:Exit->Act->World->Prop}(s x:Operand)(t:TypeId)
  (ho:o.op=.call {callee:=.builtin .append,args:=#[s,x],argTypes:=#[t,t]})
  (base:Nat) (e:TypeId) (i:TypeInfo) (z:Value) (size bytes:Nat) (ht:P.underlying t=some (.slice e)) (hi:P.info? e=some i) (hz:i.zero=some z)
  (hsize:i.size=size) (hby:i.bytes=bytes) (hzs:z.cells.size=size) (hsz:0<size)
  (v:Value) (n:Nat) (xs:List Value) (hs:a.eval s=v) (hown:w.ownsRow base e size v n xs)
  (ad:Addr) (m c:Nat) (news:List Value) (hx:a.eval x=.slice (some ad) m c) (hl:news.length=m*size) (hnews:∀j u,news[j]?=some u->w.cell? (ad.add j)=some u) (h1:∀u ∈ news,u.oneCell'=true)
  (h63:n+m<=maxLen) (hbytes:(n+m)*bytes<=140737488355328) (hbase:base<=w.heap.size)
  (hv:zbx w v) (hzn:∀u ∈ z.cells.toList,zgG u) (hnn:∀u ∈ news,zgG u)
  (h:∀v' w',w'.ownsRow base e size v' (n+m) (xs++news)->w.grownBy w' v.ownBlock->(v'.ownBlock=v.ownBlock\/v'.ownBlock=some w.heap.size)->zbx w' v'->K (a.put o.dst v') w'):Oper.wp P o a w K Q:=by
 obtain⟨v',w',hr,h2,h3,h4,h5⟩:=zfg (P:=P) w base t o.type e i z size bytes ht hi hz hsize hby hzs hsz v n xs hown ad m c news hl hnews h1 h63 hbytes hbase hv hzn hnn
 unfold Oper.wp execOp
 simp only [ho,resolve,invoke,builtin,Sem.run_bind,Sem.run_pure,Result.andThen_ok,List.map_toArray,List.map_cons,List.map_nil,hs,hx,hr]
 exact h v' w' h2 h3 h4 h5
theorem zfR {w:World}{g:Nat}{t:TypeId}{b:Bool}{B F:oA9}{m d u f:Nat}(h:Blk w g t #[.bool b,.slice B m d,.slice F u f]):∀j v,[Value.bool b,.slice B m d,.slice F u f][j]?=some v->w.cell? ((⟨g,0,none⟩:Addr).add j)=some v:=λj v hv=>by
 rw [zaM]
 match j,hv with
 |0,hv=>simp at hv;subst hv;exact h.cell 0
 |1,hv=>simp at hv;subst hv;exact h.cell 1
 |2,hv=>simp at hv;subst hv;exact h.cell 2
theorem zig (b:Bool)(B F:oA9)(m d u f:Nat):∀v ∈ [Value.bool b,.slice B m d,.slice F u f],v.oneCell'=true:=by intro v hv;simp at hv;rcases hv with rfl|rfl|rfl<;>rfl
theorem zif (b:Bool)(B F:oA9)(m d u f:Nat):∀v ∈ [Value.bool b,.slice B m d,.slice F u f],zgG v:=by intro v hv y z;simp at hv;rcases hv with rfl|rfl|rfl<;>(intro h9;cases h9)
theorem zgW:∀u ∈(Value.agg #[.bool false,.slice none 0 0,.slice none 0 0]).cells.toList,zgG u:=by intro u hu y z;simp [Value.cells] at hu;rcases hu with rfl|rfl<;>(intro h9;cases h9)
theorem ratC {T:World->Prop}{M:Nat->Prop}(hTT:∀w,T w->zal w)(h0:M 0->RatG0 T)(h1:M 1->RatG1 T)(h2:M 2->RatG2 T):RatC T M where
 g0:=h0
 g1:=h1
 g2:=h2
 new p q b b' A D n m c d w hT hA hD hn hm h0:=zou p q b A n c b' D m d w (hTT w hT) hA hD hn hm h0
 newNo p q b b' A D n m c d w hT hA hD hn hm h0:=zix p q b A n c b' D m d w (hTT w hT) hA hD hn hm h0
 of p q w hT h1 h2 h3 h4 h0:=rat_of p q w (hTT w hT) h1 h2 h3 h4 h0
 ofNo p q w hT h1 h2 h0:=zpx p q w (hTT w hT) h1 h2 (by omega) (by omega) h0
 num r b A n c E k f w hT h hf:=rat_num r b A n c E k f w (hTT w hT) h hf
 den r b A n c E k f w hT h hf:=rat_den r b A n c E k f w (hTT w hT) h hf
 sign r b A n c E k f w hT h hf:=ziy r b A n c E k f w (hTT w hT) h hf
 zero r b A n c E k f w hT h hf:=zaZ r b A n c E k f w (hTT w hT) h hf
 isInt r b A n c E k f w hT h hf:=zbu r b A n c E k f w (hTT w hT) h hf
 bits r b A n c E k f w hT h hf:=rat_bits r b A n c E k f w (hTT w hT) h hf
 add r s b b' A A' n n' c c' E E' k k' f f' w hT h h' hf hf':=zos r s b A n c E k f b' A' n' c' E' k' f' w (hTT w hT) h h' hf hf'
 cmp r s b b' A A' n n' c c' E E' k k' f f' w hT h h' hf hf':=zot r s b A n c E k f b' A' n' c' E' k' f' w (hTT w hT) h h' hf hf'
 same r s b b' A A' n n' c c' E E' k k' f f' w hT h h' hf hf':=zlX r s b A n c E k f b' A' n' c' E' k' f' w (hTT w hT) h h' hf hf'
