/- What this claim leans on. -/
import Derived.Test.YtlgnacmgepnamaaGreatDoorMVOne
namespace Go.Proofs.YtlgnacmgepnamaaGreatDoor
open Go Go.RowKit
set_option maxHeartbeats 16000000
set_option maxRecDepth 100000
set_option linter.unusedVariables false
set_option linter.unusedSimpArgs false
structure zeB (w:World)(A:oA9)(n:Nat)(zs:List Int):Prop where
 len:zs.length=n
 ints:∀i,i<n-> -9223372036854775808<=zs.getD i 0/\zs.getD i 0<=9223372036854775807
 num:∀i,i<n->∃ad:Addr,A=some ad/\w.cell? (ad.add i)=some (.int .i64 (zs.getD i 0))
def ofL (zs:List Int):List Rat:=zs.map λz:Int=>(z:Rat)
theorem zgf {zs:List Int}{A:oA9}{n c:Nat}{w:World}(hT:zao w)(ha:zeB w A n zs)(hn:n<=1073741824:=by omega):
  Calls Tryz.prog 46 #[.slice A n c] w (zeZ w n (ofL zs)):=by
 have hla:=ha.len
 have hlz:(ofL zs).length=n:=by unfold ofL;rw [List.length_map];exact hla
 have HGI:∀i,i<n->(ofL zs)[i]?=some ((zs.getD i 0:Int):Rat):=λi hi=>by
  unfold ofL
  rw [List.getElem?_map,List.getD_eq_getElem?_getD,List.getElem?_eq_getElem (by omega)];rfl
 have HI:=lh9 ha.ints
 unfold zeZ
 obtain⟨ys,hys⟩:∃ys,ofL zs=ys:=⟨_,rfl⟩
 rw [hys] at HGI hlz⊢
 have HG:=lh9 HGI
 have HLZ:=lh9 hlz
 have HA:=lh9 ha.num
 have HT:=lh9 (λw' (hb:Below w.heap.size w w')=>hT.on hb)
 obtain⟨Z,hZ⟩:=zep n (by omega)
 have hmk:=λW=>(hZ W).1
 have HOWN:=lh9 (λW=>(hZ W).2)
 clear hT ha hla hlz hys HGI hZ
 have i0:(0:Int)<=(n:Int):=by omega
 go_enter Tryz.func46,Tryz.ntmps46
 go_wp2_with fail
 clear hmk
 have hrow:=HOWN.out w
 have hB:Below w.heap.size w (w.alloc (.cells Z 48)):=(Below.refl _ w).alloc (Nat.le_refl _) _
 obtain⟨gp,hgp⟩:∃g,w.heap.size=g:=⟨_,rfl⟩
 have hwg:w.heap.size<=gp:=by omega
 rw [hgp] at hrow⊢
 rw [<-zbH 0 ys n] at hrow
 generalize w.alloc (.cells Z 48)=W1 at*
 clear hgp HOWN
 go_loopg [11] (n+1) (λg ix wr=>∃(k:Nat),k<=n/\n<g+k/\ix=.int .i64 k/\zcW wr gp n (zch 0 ys n k)/\Below w.heap.size w wr)
 case atStart=>exact⟨0,Nat.zero_le _,by omega,rfl,hrow,hB⟩
 case round=>
  clear hrow hB
  obtain⟨k,hkn,hg,rfl,hrow,hB⟩:=hrel
  by_cases hlt:k<n
  ·obtain⟨ad,rfl,hc⟩:=HA.out k hlt
   have hc0:=zae hB hc
   obtain⟨z1,z2⟩:=HI.out k hlt
   have HGK:=lh9 (HG.out k hlt)
   obtain⟨z,hz⟩:∃z,zs.getD k 0=z:=⟨_,rfl⟩
   rw [hz] at hc0 z1 z2 HGK
   have hd1:decide ((k:Int)<(n:Int))=true:=decide_eq_true (by omega)
   have i1:(0:Int)<=(k:Int):=by omega
   have i2:(k:Int)<(n:Int):=by omega
   have HROW:=lh9 hrow
   have HB1:=lh9 hB
   clear hrow hB hc hz
   go_wp2_with fail
   (with_reducible refine(zkQ z _ (HT.out _ HB1.out) z1 z2).mono ?_)
   rintro e w3 ⟨b3,A3,n3,c3,E3,k3,f3,rfl,hw3,hb⟩
   clear hc0
   have hr3:=HROW.out.keep hb
   have hr4:=zbv.set_ zar hr3 hlt hw3
   rw [zbW 0 ys n k HLZ.out hlt _ HGK.out] at hr4
   obtain⟨q0,q1,q2,sc0,sf0,sc1,sf1,sc2,sf2⟩:=hr3.ready hlt (.bool b3) (.slice A3 n3 c3)
   have HR4:=lh9 hr4
   have HB4:=lh9 (zcN (k*3) (k*3+1) (k*3+2) (.bool b3) (.slice A3 n3 c3) (.slice E3 k3 f3) hwg (zac HB1.out hb))
   clear hr3 hr4 hb hw3 HROW HB1
   go_wp2
   go_roundg (n - k)
   case measure=>omega
   case rel=>exact⟨k+1,by omega,by omega,by go_num,HR4.out,HB4.out⟩
  ·have hk:k=n:=by omega
   subst hk
   have hd1:decide ((k:Int)<(k:Int))=false:=by simp
   have HR5:=lh9 (zbV 0 ys k HLZ.out▸hrow)
   have HB1:=lh9 hB
   clear hrow hB
   go_wp2
   go_ret
   exact⟨gp,rfl,hwg,HR5.out,HB1.out⟩
theorem zmu {K:Nat}{xs:List Rat}{A:oA9}{n c:Nat}{w:World}(hT:zao w)(ha:zaM w A n c xs)(hx:zay K xs)(hn:n<=1073741824:=by omega)(hK:K+2<=67108864:=by omega):
  Calls Tryz.prog 65 #[.slice A n c] w (zeZ w n xs):=by
 have hla:=ha.len
 have HG:Hid (∀i,i<n->xs[i]?=some (xs.getD i 0)):=λi hi=>by
  rw [List.getD_eq_getElem?_getD,List.getElem?_eq_getElem (by omega)];rfl
 have HSX:Hid (∀i,i<n->zay K [xs.getD i 0]):=λi hi y hy=>by
  rw [List.mem_singleton.1 hy];exact hx.at_ (by omega)
 unfold zeZ
 have HLZ:=lh9 hla
 have HA:=lh9 ha
 have HT:=lh9 (λw' (hb:Below w.heap.size w w')=>hT.on hb)
 obtain⟨Z,hZ⟩:=zep n (by omega)
 have hmk:=λW=>(hZ W).1
 have HOWN:=lh9 (λW=>(hZ W).2)
 clear hT ha hx hla hZ
 have i0:(0:Int)<=(n:Int):=by omega
 go_enter Tryz.func65,Tryz.ntmps65
 go_wp2_with fail
 clear hmk
 have hrow:=HOWN.out w
 have hB:Below w.heap.size w (w.alloc (.cells Z 48)):=(Below.refl _ w).alloc (Nat.le_refl _) _
 obtain⟨gp,hgp⟩:∃g,w.heap.size=g:=⟨_,rfl⟩
 have hwg:w.heap.size<=gp:=by omega
 rw [hgp] at hrow⊢
 rw [<-zbH 0 xs n] at hrow
 generalize w.alloc (.cells Z 48)=W1 at*
 clear hgp HOWN
 go_loopg [11] (n+1) (λg ix wr=>∃(k:Nat),k<=n/\n<g+k/\ix=.int .i64 k/\zcW wr gp n (zch 0 xs n k)/\Below w.heap.size w wr)
 case atStart=>exact⟨0,Nat.zero_le _,by omega,rfl,hrow,hB⟩
 case round=>
  clear hrow hB
  obtain⟨k,hkn,hg,rfl,hrow,hB⟩:=hrel
  by_cases hlt:k<n
  ·obtain⟨ad,b1,B1,m1,d1,E1,u1,v1,rfl,-,hc0,hc1,hc2,hx⟩:=HA.out.get hB hlt
   have hd1:decide ((k:Int)<(n:Int))=true:=decide_eq_true (by omega)
   have i1:(0:Int)<=(k:Int):=by omega
   have i2:(k:Int)<(n:Int):=by omega
   obtain⟨s1,t1,t2,t3⟩:=zbl wr 48 48 #[.bool b1,.slice B1 m1 d1,.slice E1 u1 v1] #[.bool b1,.slice B1 m1 d1,.slice E1 u1 v1]
   have t1':=(zaD wr 48 #[.bool b1,.slice B1 m1 d1,.slice E1 u1 v1]).2.1
   obtain⟨p0,p1,p2⟩:=t1'.c3
   have HL1:=lh9 (zmv t2 (hx.below s1))
   have HROW:=lh9 (hrow.keep s1)
   have HB1:=lh9 (zac hB s1)
   clear hx hrow hB s1 t1 t2 t3 t1'
   go_wp2_with fail
   (with_reducible refine(q_sum (HT.out _ HB1.out) HL1.out (HSX.out k hlt) (by decide) (by omega)).mono ?_)
   rintro e w3 ⟨b3,A3,n3,c3,E3,k3,f3,rfl,hw3,hb⟩
   clear hc0 hc1 hc2 p0 p1 p2
   have hw3:zan w3 (xs.getD k 0) b3 A3 n3 c3 E3 k3 f3:=by
    have e:zcb [xs.getD k 0]=xs.getD k 0:=by rw [zeP,zjX,Rat.add_zero]
    rw [e] at hw3
    exact hw3
   have hr3:=HROW.out.keep hb
   have hr4:=zbv.set_ zar hr3 hlt hw3
   rw [zbW 0 xs n k HLZ.out hlt _ (HG.out k hlt)] at hr4
   obtain⟨q0,q1,q2,sc0,sf0,sc1,sf1,sc2,sf2⟩:=hr3.ready hlt (.bool b3) (.slice A3 n3 c3)
   have HR4:=lh9 hr4
   have HB4:=lh9 (zcN (k*3) (k*3+1) (k*3+2) (.bool b3) (.slice A3 n3 c3) (.slice E3 k3 f3) hwg (zac HB1.out hb))
   clear hr3 hr4 hb hw3 HROW HB1 HL1
   go_wp2
   go_roundg (n - k)
   case measure=>omega
   case rel=>exact⟨k+1,by omega,by omega,by go_num,HR4.out,HB4.out⟩
  ·have hk:k=n:=by omega
   subst hk
   have hd1:decide ((k:Int)<(k:Int))=false:=by simp
   have HR5:=lh9 (zbV 0 xs k HLZ.out▸hrow)
   have HB1:=lh9 hB
   clear hrow hB
   go_wp2
   go_ret
   exact⟨gp,rfl,hwg,HR5.out,HB1.out⟩
def zbC (u:Value):Prop:=∃A n c,u=.slice A n c
def zbN (w:World)(v:Value):Prop:=∀g,v.ownBlock=some g->∃(cur:Array Value) (e:TypeId),w.heap[g]?=some (.cells cur e (0,0))/\∀u ∈ cur.toList,zbC u
theorem zbN.nil (w:World)(c:Nat):zbN w (.slice none 0 c):=λg h=>by simp [Value.ownBlock] at h
theorem zbN.block {w w':World}{v:Value}(h:zbN w v)(hg:∀g,v.ownBlock=some g->w'.heap[g]?=w.heap[g]?):zbN w' v:=λg e=>by
 obtain⟨cur,t,h1,h2⟩:=h g e
 exact⟨cur,t,(hg g e).trans h1,h2⟩
theorem zbN.below {w w':World}{v:Value}(h:zbN w v)(hb:Below w.heap.size w w'):zbN w' v:=λg e=>by
 obtain⟨cur,t,h1,h2⟩:=h g e
 exact⟨cur,t,(hb.block g (Array.getElem?_eq_some_iff.1 h1).1).trans h1,h2⟩
theorem zjd {z:Array Value}{k:Nat}{u:Value}(hz:0<z.size)(hu:u ∈(Builtin.zeroCells z k).toList):u ∈ z.toList:=by
 unfold Builtin.zeroCells at hu
 rw [Array.mem_toList_iff,Array.mem_map] at hu
 obtain⟨i,_,rfl⟩:=hu
 have hlt:i%z.size<z.size:=Nat.mod_lt _ hz
 rw [getElem!_pos z (i%z.size) hlt,Array.mem_toList_iff]
 exact Array.getElem_mem hlt
section
variable {P:Program}(w:World)
theorem zfM (base:Nat)(t ty e:TypeId)(i:TypeInfo)(z:Value)(size bytes:Nat)(ht:P.underlying t=some (.slice e))(hi:P.info? e=some i)(hz:i.zero=some z)
  (hsize:i.size=size) (hby:i.bytes=bytes) (hzs:z.cells.size=size) (hsz:0<size)
  (v:Value) (n:Nat) (xs:List Value) (hown:w.ownsRow base e size v n xs)
  (a:Addr) (m c:Nat) (news:List Value) (hl:news.length=m*size) (hnews:∀j u,news[j]?=some u->w.cell? (a.add j)=some u) (h1:∀u ∈ news,u.oneCell'=true)
  (h63:n+m<=maxLen) (hbytes:(n+m)*bytes<=140737488355328) (hbase:base<=w.heap.size)
  (hv:zbN w v) (hzn:∀u ∈ z.cells.toList,zbC u) (hnn:∀u ∈ news,zbC u):
  ∃ v' w',(Builtin.append_ #[t,t] ty #[v,.slice (some a) m c]).run P w = .ok v' w' ∧ w'.ownsRow base e size v' (n + m) (xs ++ news) ∧ w.grownBy w' v.ownBlock ∧
   (v'.ownBlock=v.ownBlock\/v'.ownBlock=some w.heap.size)/\zbN w' v':=by
 subst hsize
 subst hby
 have hsmall:n+m<=9223372036854775807:=by simp only [maxLen] at h63;omega
 have hlen:(xs++news).length=(n+m)*i.size:=by rw [List.length_append,hown.1,hl,Nat.add_mul]
 have grown : ∀ (old : Nat),old < n + m → (∀ u ∈ xs,zbC u) → ∀ (row : Option Nat),
   (w.drew.alloc (.cells (xs.toArray ++ news.toArray ++ Builtin.zeroCells z.cells (grownCap w (n + m) old e - (n + m))) e)).ownsRow base e i.size
     (.slice (some ⟨w.heap.size,0,none⟩) (n+m) (grownCap w (n+m) old e)) (n+m) (xs++news)/\
   w.grownBy (w.drew.alloc (.cells (xs.toArray++news.toArray++Builtin.zeroCells z.cells (grownCap w (n+m) old e - (n+m))) e)) row/\
   zbN (w.drew.alloc (.cells (xs.toArray++news.toArray++Builtin.zeroCells z.cells (grownCap w (n+m) old e - (n+m))) e)) (.slice (some ⟨w.heap.size,0,none⟩) (n+m) (grownCap w (n+m) old e)):=by
  intro old ho hxs row
  have hge:=grownCap_ge w (n+m) old e
  have hcm:grownCap w (n+m) old e<=maxLen:=grownCap_le_maxLen w (n+m) old e h63
  refine⟨⟨hlen,.inr ⟨w.heap.size,_,_,rfl,hbase,heap_alloc_new w.drew _,hge,hcm,?_,?_⟩⟩,⟨rfl,rfl,rfl,by simp,λk hk _=>heap_alloc_old w.drew _ hk⟩,?_⟩
  ·simp only [Array.size_append,List.size_toArray,size_zeroCells,hzs,hown.1,hl,<-Nat.add_mul]
   congr 1
   omega
  ·simp only [Array.toList_append,List.append_assoc]
   rw [<-List.append_assoc,<-hlen]
   exact List.take_left
  ·intro g hg
   simp [Value.ownBlock] at hg
   subst hg
   refine⟨_,_,heap_alloc_new w.drew _,λu hu=>?_⟩
   simp only [Array.toList_append,List.mem_append] at hu
   rcases hu with(hu|hu)|hu
   ·exact hxs u hu
   ·exact hnn u hu
   ·exact hzn u (zjd (by omega) hu)
 rcases hown.2 with⟨rfl,rfl⟩|⟨g,cap,cur,rfl,hbg,hg,hnc,hcm,hcs,htake⟩
 ·have hx:xs=[]:=List.eq_nil_of_length_eq_zero (by simpa using hown.1)
  subst hx
  by_cases hm:m=0
  ·subst hm
   have hn:news=[]:=List.eq_nil_of_length_eq_zero (by simpa using hl)
   subst hn
   refine⟨.slice none 0 0,w,?_,World.ownsRow_nil w base e i.size,⟨rfl,rfl,rfl,Nat.le_refl _,λ_ _ _=>rfl⟩,Or.inl rfl,zbN.nil _ _⟩
   simp [Builtin.append_,run_underlying ht,sizeOf,typeInfo,hi,Builtin.lenOf,Builtin.firstCells,loadCells,loadCellsFrom]
  ·have hr:=run_append_nil (P:=P) w t ty e i z ht hi hz a m c news hl hnews (by omega) (by omega) (by have hb:=hbytes;simp only [Nat.zero_add] at hb;omega)
   have hgr:=grown 0 (by omega) (λu hu=>by cases hu) (Value.ownBlock (.slice none 0 0))
   simp only [Nat.zero_add,List.nil_append,Array.empty_append] at hgr⊢
   exact⟨_,_,hr,hgr.1,hgr.2.1,Or.inr rfl,hgr.2.2⟩
 ·obtain⟨cur2,e2,hg2,hcn⟩:=hv g rfl
  have hcur:cur2=cur:=by
   rw [hg] at hg2
   injection hg2 with hg2
   injection hg2 with hg2
   exact hg2.symm
  subst hcur
  by_cases hroom:n+m<=cap
  ·have hfit:n*i.size+news.length<=cur2.size:=by rw [hl,hcs,<-Nat.add_mul];exact Nat.mul_le_mul_right _ hroom
   have hr:=run_append_room (P:=P) w t ty e i ht hi g n cap cur2 hg a m c news hl hnews h1 hroom hfit
   refine⟨_,_,hr,⟨hlen,.inr ⟨g,cap,_,rfl,hbg,setRow_heap w g cur2 _ e _ hg,hroom,hcm,?_,?_⟩⟩,⟨rfl,rfl,rfl,by simp,λk _ hk=>setRow_other w g k _ (λe=>hk (by simp [Value.ownBlock,e]))⟩,Or.inl rfl,?_⟩
   ·simp only [List.size_toArray,List.length_append,List.length_take,List.length_drop,Array.length_toList]
    omega
   ·rw [htake,<-hlen]
    exact List.take_left
   ·intro g' hg'
    simp [Value.ownBlock] at hg'
    subst hg'
    refine⟨_,_,setRow_heap w g cur2 _ e _ hg,λu hu=>?_⟩
    rw [List.mem_append,List.mem_append] at hu
    rcases hu with(hu|hu)|hu
    ·exact hcn u (List.mem_of_mem_take hu)
    ·exact hnn u hu
    ·exact hcn u (List.mem_of_mem_drop hu)
  ·have holds:∀j u,xs[j]?=some u->w.cell? ((⟨g,0,none⟩:Addr).add j)=some u:=hown.cells (g:=g) rfl
   have hr:=run_append_grow (P:=P) w t ty e i z ht hi hz ⟨g,0,none⟩ n cap xs hown.1 holds a m c news hl hnews (by omega) (by omega) (growslice_fits (by omega) hbytes)
   have hxs:∀u ∈ xs,zbC u:=λu hu=>hcn u (List.mem_of_mem_take (by rw [htake];exact hu))
   have hgr:=grown cap (by omega) hxs (Value.ownBlock (.slice (some ⟨g,0,none⟩) n cap))
   exact⟨_,_,hr,hgr.1,hgr.2.1,Or.inr rfl,hgr.2.2⟩
theorem zbR {ops:Array Oper}{rest:List Oper}{o:Oper}{a:Act}{Q:Exit->Act->World->Prop}(hgd:o.guard=none)(s x:Operand)(t:TypeId)
  (ho:o.op=.call {callee:=.builtin .append,args:=#[s,x],argTypes:=#[t,t]})
  (base:Nat) (e:TypeId) (i:TypeInfo) (z:Value) (size bytes:Nat) (ht:P.underlying t=some (.slice e)) (hi:P.info? e=some i) (hz:i.zero=some z)
  (hsize:i.size=size) (hby:i.bytes=bytes) (hzs:z.cells.size=size) (hsz:0<size)
  (v:Value) (n:Nat) (xs:List Value) (hs:a.eval s=v) (hown:w.ownsRow base e size v n xs)
  (ad:Addr) (m c:Nat) (news:List Value) (hx:a.eval x=.slice (some ad) m c) (hl:news.length=m*size) (hnews:∀j u,news[j]?=some u->w.cell? (ad.add j)=some u) (h1:∀u ∈ news,u.oneCell'=true)
  (h63:n+m<=maxLen) (hbytes:(n+m)*bytes<=140737488355328) (hbase:base<=w.heap.size)
  (hv:zbN w v) (hzn:∀u ∈ z.cells.toList,zbC u) (hnn:∀u ∈ news,zbC u)
  (h:∀v' w',w'.ownsRow base e size v' (n+m) (xs++news)->w.grownBy w' v.ownBlock->(v'.ownBlock=v.ownBlock\/v'.ownBlock=some w.heap.size)->zbN w' v'->wpList P ops Q rest (a.put o.dst v') w'):
  wpList P ops Q (o::rest) a w:=by
 refine wpList_plain hgd λK hK=>?_
 obtain⟨v',w',hr,h2,h3,h4,h5⟩:=zfM (P:=P) w base t o.type e i z size bytes ht hi hz hsize hby hzs hsz v n xs hown ad m c news hl hnews h1 h63 hbytes hbase hv hzn hnn
 unfold Oper.wp execOp
 simp only [ho,resolve,invoke,builtin,Sem.run_bind,Sem.run_pure,Result.andThen_ok,List.map_toArray,List.map_cons,List.map_nil,hs,hx,hr]
 exact hK _ _ (h v' w' h2 h3 h4 h5)
end
theorem zbN.blk {w:World}{v:Value}{g:Nat}(h:zbN w v)(hg:v.ownBlock=some g):∃(t:TypeId) (cs:Array Value),Blk w g t cs/\∀u ∈ cs.toList,zbC u:=by
 obtain⟨cur,e,h1,h2⟩:=h g hg
 exact⟨e,cur,h1,h2⟩
theorem vec_offS {w w':World}{A:oA9}{n c g:Nat}{xs:List Rat}{t:TypeId}{cs:Array Value}(h:zaM w A n c xs)(hk:Blk w g t cs)(hs:∀u ∈ cs.toList,zbC u)(ho:zcI g w w'):zaM w' A n c xs:=by
 refine⟨h.len,h.fits,h.most,λi x hi=>?_⟩
 obtain⟨ad,b,B,m,d,F,u,v,e,h1,h2,h3,h4,h5⟩:=h.num i x hi
 have hne:ad.block≠g:=λhg=>by
  have hb:(ad.add (i*3)).block=g:=by rw [zap];exact hg
  generalize ad.add (i*3)=q at hb h2
  obtain⟨bk,off,pr⟩:=q
  simp only at hb
  subst hb
  unfold Blk at hk
  cases pr with
  |none=>
    rw [show w.cell? ⟨bk,off,none⟩=cs[off]? from cell_of_row w bk off _ t (0,0) hk,<-Array.getElem?_toList] at h2
    obtain⟨A9,n9,c9,e9⟩:=hs _ (List.mem_of_getElem? h2)
    cases e9
  |some q=>simp [World.cell?,hk] at h2
 have hnu:NoU cs:=λq hq k z e9=>by
  obtain⟨A9,n9,c9,e8⟩:=hs q hq
  rw [e8] at e9
  cases e9
 have hc:∀j,w'.cell? (ad.add j)=w.cell? (ad.add j):=λj=>ho.2 _ (by rw [zap];exact h1) (by rw [zap];exact hne)
 exact⟨ad,b,B,m,d,F,u,v,e,Nat.lt_of_lt_of_le h1 ho.1,(hc _).trans h2,(hc _).trans h3,(hc _).trans h4,zar.offg h5 hk hnu ho⟩
theorem zke {w w':World}{v:Value}{A:oA9}{n c:Nat}{xs:List Rat}(h:zaM w A n c xs)(hg:w.grownBy w' v.ownBlock)(hn:zbN w v):zaM w' A n c xs:=by
 cases hv:v.ownBlock with
 |none=>rw [hv] at hg;exact h.keep (zdN hg)
 |some g=>
   rw [hv] at hg
   obtain⟨t,cs,hk,hc⟩:=hn.blk hv
   exact vec_offS h hk hc (zcI.of_grown hg)
structure zcF (w:World)(base:Nat)(v:Value)(Ls:List (List Rat))(vs:List Value):Prop where
 own:w.ownsRow base 51 1 v Ls.length vs
 sl:zbN w v
 num:∀(i:Nat) (L:List Rat),Ls[i]?=some L->∃(B:oA9) (d:Nat),vs[i]?=some (Value.slice B L.length d)/\zaM w B L.length d L
theorem zcF.nil (w:World)(base:Nat):zcF w base (.slice none 0 0) [] []:=⟨World.ownsRow_nil _ _ _ _,zbN.nil _ _,λi L hi=>by simp at hi⟩
theorem zcF.len {w:World}{base:Nat}{v:Value}{Ls:List (List Rat)}{vs:List Value}(h:zcF w base v Ls vs):vs.length=Ls.length:=by have:=h.own.1;omega
theorem zcF.shape {w:World}{base n:Nat}{v:Value}{Ls:List (List Rat)}{vs:List Value}(h:zcF w base v Ls vs)(hn:Ls.length=n):∃A c,v=.slice A n c/\zgP w A n Ls:=by
 subst hn
 obtain⟨A,c,e,h1,h2,h3⟩:=zau.of_grown_own h.own
 refine⟨A,c,e,rfl,λi L hi=>?_⟩
 obtain⟨B,d,hv,hw⟩:=h.num i L hi
 have hlt:=(List.getElem?_eq_some_iff.1 hi).1
 obtain⟨ad,ea,hb,hc⟩:=h3.2 (by omega)
 exact⟨ad,B,d,ea,hb,hc i _ hv,hw⟩
theorem zcF.below {w w':World}{base:Nat}{v:Value}{Ls:List (List Rat)}{vs:List Value}(h:zcF w base v Ls vs)(hb:Below w.heap.size w w'):zcF w' base v Ls vs:=by
 refine⟨⟨h.own.1,?_⟩,h.sl.below hb,λi L hi=>?_⟩
 ·rcases h.own.2 with h1|⟨g,cap,cur,e1,e2,e3,e4⟩
  ·exact .inl h1
  ·exact .inr ⟨g,cap,cur,e1,e2,(hb.block g (Blk.lt (t:=51) (cs:=cur) e3)).trans e3,e4⟩
 ·obtain⟨B,d,hv,hw⟩:=h.num i L hi
  exact⟨B,d,hv,hw.keep hb⟩
theorem zcF.grow {w w':World}{base n:Nat}{v v':Value}{Ls:List (List Rat)}{vs:List Value}{L:List Rat}{B:oA9}{d:Nat}(h:zcF w base v Ls vs)(hx:zaM w B L.length d L)
  (ho:w'.ownsRow base 51 1 v' n (vs++[.slice B L.length d])) (hn:n=Ls.length+1) (hg:w.grownBy w' v.ownBlock) (hs:zbN w' v'):zcF w' base v' (Ls++[L]) (vs++[.slice B L.length d]):=by
 have hl:=h.len
 refine⟨by rw [List.length_append,List.length_singleton,<-hn];exact ho,hs,λi M hi=>?_⟩
 by_cases hlt:i<Ls.length
 ·rw [List.getElem?_append_left hlt] at hi
  obtain⟨C,e,hv,hw⟩:=h.num i M hi
  exact⟨C,e,by rw [List.getElem?_append_left (by omega)];exact hv,zke hw hg h.sl⟩
 ·rw [List.getElem?_append_right (by omega)] at hi
  have hi2:i=Ls.length:=by
   have:=(List.getElem?_eq_some_iff.1 hi).1
   simp at this
   omega
  subst hi2
  obtain rfl:L=M:=by
   rw [Nat.sub_self] at hi
   injection hi
  exact⟨B,d,by rw [List.getElem?_append_right (by omega),hl,Nat.sub_self];rfl,zke hx hg h.sl⟩
theorem zgv:(Tryz.prog.info? 51).map (λi=>(i.zero,i.size,i.bytes))=some (some (.slice none 0 0),1,24):=by kernel_rfl
theorem zgP.get {w:World}{A:oA9}{n:Nat}{Ls:List (List Rat)}(h:zgP w A n Ls){i m:Nat}(hi:i<n)(hm:(Ls.getD i []).length=m):∃(ad:Addr) (B:oA9) (d:Nat),A=some ad/\w.cell? (ad.add i)=some (.slice B m d)/\zaM w B m d (Ls.getD i []):=by
 have hl:=h.len
 obtain⟨ad,B,d,e,_,h1,h2⟩:=h.num i _ (zdo (d:=[]) (by omega))
 rw [hm] at h1 h2
 exact⟨ad,B,d,e,h1,h2⟩
abbrev zhx:=Nat->oA9×Nat×Nat×List (Int×Int)
theorem zai:zdM zbF where
 below h hb:=h.below hb
 offg h hk hcs ho:=⟨⟨h.1.1,zig h.1.2 hk hcs ho⟩,zig h.2 hk hcs ho⟩
abbrev zbw (w:World)(A:oA9)(n c:Nat)(xs:List Rat):Prop:=zas zbF w A n c xs
theorem zbw.keep {w w':World}{A:oA9}{n c:Nat}{xs:List Rat}(h:zbw w A n c xs)(hb:Below w.heap.size w w'):zbw w' A n c xs:=zas.below zai h hb
theorem zbw.get {w wr:World}{A:oA9}{n c:Nat}{xs:List Rat}(h:zbw w A n c xs)(hb:Below w.heap.size w wr){i:Nat}(hi:i<n):∃(ad:Addr) (b:Bool) (B:oA9) (m d:Nat) (F:oA9) (u v:Nat),A=some ad/\ad.block<w.heap.size/\wr.cell? (ad.add (i*3))=some (.bool b)/\wr.cell? ⟨(ad.add (i*3)).block,(ad.add (i*3)).off+1,none⟩=some (.slice B m d)/\wr.cell? ⟨(ad.add (i*3)).block,(ad.add (i*3)).off+2,none⟩=some (.slice F u v)/\zbF wr (xs.getD i 0) b B m d F u v:=by
 obtain⟨ad,b,B,m,d,F,u,v,e,h0,h1,h2,h3,h4⟩:=h.at_ hi 0
 exact⟨ad,b,B,m,d,F,u,v,e,h0,zae hb h1,zae hb (zgs h2),zae hb (znZ h3),h4.below hb⟩
def zgl (w:World)(n:Nat)(xs:List Rat)(e:Ending)(w':World):Prop:=∃(A:oA9) (c:Nat),e=.returned (.slice A n c)/\zbw w' A n c xs/\Below w.heap.size w w'
theorem zhE:(Tryz.prog.info? 94).map (λi=>(i.zero,i.size,i.bytes))=some (some (.agg #[.bool false,.slice none 0 0,.slice none 0 0]),3,56):=by kernel_rfl
def zlh (w:World)(n:Nat)(xs:List Rat)(e:Ending)(w':World):Prop:=∃(A:oA9) (c:Nat),e=.returned (.slice A n c)/\zbw w' A n c xs/\(∀ad,A=some ad->w.heap.size<=ad.block/\ad.block<w'.heap.size)/\Below w.heap.size w w'
theorem zjh {A:oA9}{n c:Nat}{L:List (Int×Int)}{w:World}(h:zba w A n c L):
  Calls Tryz.prog 38 #[.slice A n c] w (zlh w n (zci L)):=by
 obtain⟨i1',hi1,hz10,hz11,hz12⟩:=info_parts zhE
 have hn0:n<=1048576:=Nat.le_trans h.fits h.small
 have HL:=lh9 h.len
 have HG:Hid (∀k,k<n->zbB (L.getD k (0,0)).1/\zbB (L.getD k (0,0)).2/\∃ad,A=some ad/\ad.block<w.heap.size/\w.cell? (ad.add (k*2))=some (.int .i64 (L.getD k (0,0)).1)/\w.cell? (ad.add (k*2+1))=some (.int .i64 (L.getD k (0,0)).2)):=λk hk=>by
  have hl:=h.len
  have e:L[k]?=some (L.getD k (0,0)):=by rw [List.getD_eq_getElem?_getD,List.getElem?_eq_getElem (by omega)];rfl
  obtain⟨h1,h2⟩:=h.ints _ (List.mem_of_getElem? e)
  exact⟨h1,h2,h.row k _ e⟩
 have HS:Hid (∀k,k<n->zci (L.take (k+1))=zci (L.take k)++[qOf (L.getD k (0,0)).1 (L.getD k (0,0)).2]):=λk hk=>by
  have hl:=h.len
  unfold zci
  rw [List.take_succ_eq_append_getElem (by omega),List.map_append,List.getD_eq_getElem?_getD,List.getElem?_eq_getElem (by omega)]
  rfl
 unfold zlh
 clear h
 have hB:=Below.refl w.heap.size w
 go_enter Tryz.func38,Tryz.ntmps38
 go_wp2_with fail
 go_loopg [3,4] (n+1) (λg sl ix wr=>∃(k:Nat) (v:Value) (vs:List Value),k<=n/\n<g+k/\ix=.int .i64 k/\v=sl/\zcw zbF wr w.heap.size 94 v (zci (L.take k)) vs/\Below w.heap.size w wr)
 case atStart=>exact⟨0,_,_,Nat.zero_le _,by omega,rfl,rfl,zcw.nil _ _ _,hB⟩
 case round=>
  clear hB
  obtain⟨k,v,vs,hkn,hg,rfl,rfl,hon,hB⟩:=hrel
  by_cases hlt:k<n
  ·obtain⟨hi1',hi2',ad,rfl,hadb,hc0,hc1⟩:=HG.out k hlt
   have HSK:=lh9 (HS.out k hlt)
   obtain⟨q,hq⟩:∃q,L.getD k (0,0)=q:=⟨_,rfl⟩
   rw [hq] at hi1' hi2' hc0 hc1 HSK
   obtain⟨q1,q2⟩:=q
   dsimp only at hi1' hi2' hc0 hc1 HSK
   have HC0:Hid (∀w',Below w.heap.size w w'->w'.cell? (ad.add (k*2))=some (.int .i64 q1)/\w'.cell? ⟨(ad.add (k*2)).block,(ad.add (k*2)).off+1,none⟩=some (.int .i64 q2)):=λw' hb=>⟨zae hb hc0,zgs (zae hb hc1)⟩
   have hd1:decide ((k:Int)<(n:Int))=true:=decide_eq_true (by omega)
   have i1:(0:Int)<=(k:Int):=by omega
   have i2:(k:Int)<(n:Int):=by omega
   have hbd:=(Below.refl wr.heap.size wr).drew
   have HON:=lh9 (zcw.below zai hon hbd)
   have HB:=lh9 (zac hB hbd)
   have HI1:=lh9 hi1'
   have HI2:=lh9 hi2'
   have hlq:(zci (L.take k)).length=k:=by rw [zcC,List.length_take,HL.out];omega
   have HLQ:=lh9 hlq
   obtain⟨c0,c1⟩:=HC0.out _ hB
   clear hon hi1' hi2' hq hlq hbd hc0 hc1 hB
   go_wp2_with fail
   refine rg (csc c0 (csc c1 csn)) (λhHeld=>?_)
   clear c0 c1
   generalize wr.drew=D at*
   refine tk 0 ?_
   refine tk 1 ?_
   refine tk 2 ?_
   refine tk 3 ?_
   refine tk 4 ?_
   refine tk 5 ?_
   refine tk 6 ?_
   refine tk 7 ?_
   refine tk 8 ?_
   refine tk 9 ?_
   refine tk 10 ?_
   refine rc 11 (λKK hK=>?_)
   go_simp
   (with_reducible refine(ref10_of HI1.out HI2.out).mono ?_)
   rintro e w5 ⟨b5,B5,m5,d5,E5,u5,f5,rfl,hx5,hb⟩
   refine hK.out _ _ (Cs.below hHeld hb) (λhHeld=>?_)
   clear hK KK
   obtain⟨t1,t2,-⟩:=zaD w5 94 #[.bool b5,.slice B5 m5 d5,.slice E5 u5 f5]
   have hup:=zac hb t1
   have hon:=zcw.below zai HON.out hup
   have HX:=lh9 (hx5.below t1)
   have HB:=lh9 (zac HB.out hup)
   have HCELL:=lh9 (zeJ t2)
   have HBS:=lh9 HB.out.size
   have hown:=hon.own
   rw [HLQ.out] at hown
   have HOWN:=lh9 hown
   have HNOU:=lh9 hon.nou
   have HOB:=lh9 (λr (h:v.ownBlock=some r)=>hon.own.lt r h)
   have HON:=lh9 hon
   have hHeld2:=Cs.below hHeld t1
   clear hb hup hx5 hon t1 t2 hown
   refine rc 12 (λKK hK=>?_)
   go_simp
   refine hK.out _ _ hHeld2 (λhHeld=>?_)
   clear hK KK hHeld2
   refine rc 13 (λKK hK=>?_)
   refine zfP _ (.tmp 11) (.tmp 23) 55 rfl w.heap.size 94 i1' (.agg #[.bool false,.slice none 0 0,.slice none 0 0]) 3 56 Tryz.underlying55 hi1 hz10 hz11 hz12 rfl (by decide) v k vs rfl HOWN.out ⟨w5.heap.size,0,none⟩ 1 1 [.bool b5,.slice B5 m5 d5,.slice E5 u5 f5] rfl rfl HCELL.out (zgy _ _ _ _ _ _ _) (by unfold maxLen;omega) (by omega) HBS.out HNOU.out zfI (zgx _ _ _ _ _ _ _) ?_
   intro v' w8 hown' hgrow hat hnou'
   have HON8:=lh9 (zcw.grow (n:=k+1) zai HON.out HX.out hown' (by rw [HLQ.out]) hgrow hnou')
   have HB8:=lh9 (HB.out.grown hgrow HBS.out (λr hr=>(HOB.out r hr).1))
   obtain⟨c0,c1⟩:=HC0.out _ HB8.out
   refine hK.out _ _ (csc c0 (csc c1 csn)) (λhHeld=>?_)
   clear hK KK c0 c1 hown' hgrow hat hnou'
   refine tk 14 ?_
   refine rdn ?_
   clear hHeld HON HX HB HCELL HBS HOWN HNOU HOB
   rw [<-HSK.out] at HON8
   go_wp2
   go_roundg (n - k)
   case measure=>omega
   case rel=>exact⟨k+1,_,_,by omega,by omega,by go_num,rfl,HON8.out,HB8.out⟩
  ·have hd1:decide ((k:Int)<(n:Int))=false:=decide_eq_false (by omega)
   have hk:k=n:=by omega
   subst hk
   rw [List.take_of_length_le (by rw [HL.out];exact Nat.le_refl _)] at hon
   have hlq:(zci L).length=k:=by rw [zcC];exact HL.out
   obtain⟨A1,c1,rfl,hv,hf⟩:=hon.shape
   have HF:=lh9 (λad (e9:A1=some ad)=>hon.own.lt ad.block (by subst e9;rfl))
   rw [hlq] at hv⊢
   have HV:=lh9 hv
   have HB1:=lh9 hB
   clear hon hv hB hlq hf
   go_wp2
   go_ret
   exact⟨A1,c1,rfl,HV.out,HF.out,HB1.out⟩
theorem zgU {A:oA9}{n c:Nat}{L:List (Int×Int)}{w:World}(h:zba w A n c L):
  Calls Tryz.prog 38 #[.slice A n c] w (zgl w n (zci L)):=
 (zjh h).mono λ_ _ ⟨A1,c1,e,h1,_,h3⟩=>⟨A1,c1,e,h1,h3⟩
