/- What this claim leans on. -/
import Derived.Test.YtlgnacmgepnamaaGreatDoorKVMade
namespace Go.Proofs.YtlgnacmgepnamaaGreatDoor
open Go Go.RowKit
set_option maxHeartbeats 16000000
set_option maxRecDepth 100000
set_option linter.unusedVariables false
set_option linter.unusedSimpArgs false
theorem znN (f:Rat->Rat->Rat)(F:FuncId)(cap:Array Value)(xs ys:List Rat)(A B:oA9)(n c d:Nat)(w:World)(ha:zaK w A n c xs)(hb:zaK w B n d ys)(hn:n<=1073741824)
  (hEn:∀(args:Array Value) (w':World),Sem.run Tryz.prog (callFunc F args) w'=.ok (.enter F args) w')
  (hF : ∀ i,i < n → ∀ w',Below w.heap.size w w' → ∀ (b b' : Bool) (A A' : oA9) (n n' c c' : Nat) (E E' : oA9) (k k' f9 f9' : Nat),zan w' (xs.getD i 0) b A n c E k f9 → zan w' (ys.getD i 0) b' A' n' c' E' k' f9' →
    Calls Tryz.prog F (#[.agg #[.bool b,.slice A n c,.slice E k f9],.agg #[.bool b',.slice A' n' c',.slice E' k' f9']]++cap) w' (zaJ w' (f (xs.getD i 0) (ys.getD i 0)))):
  Calls Tryz.prog 137 #[.slice A n c,.slice B n d,.func (.func F) #[] cap] w (zci w n (List.zipWith f xs ys)):=by
 have hla:=ha.len
 have hlb:=hb.len
 have hlz:(List.zipWith f xs ys).length=n:=zoC hla hlb
 unfold zci
 have HGI:∀i,i<n->(List.zipWith f xs ys)[i]?=some (f (xs.getD i 0) (ys.getD i 0)):=λi hi=>by
  rw [List.getElem?_zipWith,List.getD_eq_getElem?_getD,List.getD_eq_getElem?_getD,List.getElem?_eq_getElem (by omega),List.getElem?_eq_getElem (by omega)];rfl
 obtain⟨zs,hzs⟩:∃zs,List.zipWith f xs ys=zs:=⟨_,rfl⟩
 rw [hzs] at HGI hlz⊢
 have HG:=lh9 HGI
 have HLZ:=lh9 hlz
 have HF:=lh9 hF
 have HA:=lh9 ha
 have HB9:=lh9 hb
 obtain⟨Z,hZ⟩:=zef n (by omega)
 have hmk:=λW=>(hZ W).1
 have HOWN:=lh9 (λW=>(hZ W).2)
 clear hF ha hb hla hlb hlz hzs HGI hZ
 have hd0:((n:Int) !=(n:Int))=false:=by simp
 have i0:(0:Int)<=(n:Int):=by omega
 go_enter Tryz.func137,Tryz.ntmps137
 go_wp2_with fail
 clear hmk
 have hrow:=HOWN.out w
 have hB:Below w.heap.size w (w.alloc (.cells Z 48)):=(Below.refl _ w).alloc (Nat.le_refl _) _
 obtain⟨gp,hgp⟩:∃g,w.heap.size=g:=⟨_,rfl⟩
 have hwg:w.heap.size<=gp:=by omega
 have hz:gp+1<=(w.alloc (.cells Z 48)).heap.size:=by simp [hgp]
 rw [hgp] at hrow⊢
 rw [<-zby 0 zs n] at hrow
 generalize w.alloc (.cells Z 48)=W1 at*
 clear hgp HOWN
 go_loopg [21] (n+1) (λg ix wr=>∃(k:Nat),k<=n/\n<g+k/\ix=.int .i64 k/\zbZ wr gp n (zbV 0 zs n k)/\Below w.heap.size w wr)
 case atStart=>exact⟨0,Nat.zero_le _,by omega,rfl,hrow,hB⟩
 case round=>
  clear hrow hB hz
  obtain⟨k,hkn,hg,rfl,hrow,hB⟩:=hrel
  by_cases hlt:k<n
  ·obtain⟨ad,b1,B1,m1,d1,E1,u1,v1,rfl,-,hc0,hc1,hc2,hx⟩:=HA.out.get hB hlt
   obtain⟨ae,b2,B2,m2,d2,E2,u2,v2,rfl,hae,he0,he1,he2,hy⟩:=HB9.out.get hB hlt
   have hd1:decide ((k:Int)<(n:Int))=true:=by simp;omega
   have i1:(0:Int)<=(k:Int):=by omega
   have i2:(k:Int)<(n:Int):=by omega
   have hgr:=hrow.lt
   obtain⟨st,d3,d4⟩:=zaA wr 48 #[.bool b1,.slice B1 m1 d1,.slice E1 u1 v1]
   have HBX:=lh9 d3
   have HX:=lh9 (hx.below st)
   have HY:=lh9 (hy.below st)
   have HROW:=lh9 (hrow.keep st)
   have HB1:=lh9 (zac hB st)
   have HE:=lh9 (And.intro (zad st he0) (And.intro (zad st he1) (zad st he2)))
   clear hx hy hrow hB st d3 d4 he0 he1 he2
   go_wp2_with fail
   clear hc0 hc1 hc2
   generalize wr.alloc (.cells #[.bool b1,.slice B1 m1 d1,.slice E1 u1 v1] 48)=W2 at*
   generalize wr.heap.size=gb at*
   obtain⟨p0,p1,p2⟩:=HBX.out.c3
   obtain⟨e0,e1,e2⟩:=HE.out
   have hBw:=(Below.refl W2.heap.size W2).drew
   have hne:=off_add (k:=k*3) (show ae.block≠gp by omega)
   refine rg (csc p0 (csc p1 (csc p2 (csc e0 (csc e1 (csc e2 csn)))))) (λhHeld=>?_)
   refine tk 0 ?_
   refine tk 1 ?_
   refine tk 2 ?_
   refine tk 3 ?_
   refine tk 4 ?_
   refine tk 5 ?_
   refine tk 6 ?_
   refine tk 7 ?_
   refine rc 8 (λK hK=>?_)
   go_simp
   refine(HF.out k hlt _ (zac HB1.out hBw) _ _ _ _ _ _ _ _ _ _ _ _ _ _ (HX.out.below hBw) (HY.out.below hBw)).mono ?_
   rintro e w3 ⟨b3,A3,n3,c3,E3,k3,f3,rfl,hw3,hb⟩
   have hBw:=zac hBw hb
   refine hK.out _ _ (Cs.below hHeld hb) (λhHeld=>?_);clear hK K hb
   refine tk 9 ?_
   have hr3:=HROW.out.keep hBw
   obtain⟨q0,q1,q2,sc0,sf0,sc1,sf1,sc2,sf2⟩:=hr3.ready hlt (.bool b3) (.slice A3 n3 c3)
   refine rc 10 (λK hK=>?_)
   go_simp
   have hr4:=zbm.set_ zaq hr3 hlt hw3
   rw [zbN 0 zs n k HLZ.out hlt _ (HG.out k hlt)] at hr4
   have hB4:=zcb (k*3) (k*3+1) (k*3+2) (.bool b3) (.slice A3 n3 c3) (.slice E3 k3 f3) hwg (zac HB1.out hBw)
   refine hK.out _ _ (Cs.far hHeld (offg3 _ _ _ _ _ _ _ _) (by refine⟨?_,?_,?_,hne,hne,hne,trivial⟩<;>(show gb≠gp;omega))) (λhHeld=>?_);clear hK K
   refine rdn ?_
   have HR4:=lh9 hr4
   have HB4:=lh9 hB4
   clear hr4 hB4 hr3 hHeld hBw hw3 sc0 sf0 sc1 sf1 sc2 sf2 p0 p1 p2 e0 e1 e2 HBX HX HY HROW HB1 HE
   go_wp2
   go_roundg (n - k)
   case measure=>omega
   case rel=>exact⟨k+1,by omega,by omega,by go_num,HR4.out,HB4.out⟩
  ·have hk:k=n:=by omega
   subst hk
   have hd1:decide ((k:Int)<(k:Int))=false:=by simp
   have HR:=lh9 (zbM 0 zs k HLZ.out▸hrow)
   have HB1:=lh9 hB
   clear hrow hB
   go_wp2
   go_ret2
   exact⟨gp,rfl,hwg,HR.out,HB1.out⟩
section
variable {K K' L:Nat}{r:Rat}{xs ys:List Rat}{A B:oA9}{n n' c d:Nat}{w:World}{s:Bool}{D:oA9}{m e9:Nat}{U:oA9}{u v:Nat}
end
theorem zbl {w:World}{g n:Nat}{xs:List Rat}(h:zbZ w g n xs)(hn:n<=1073741824:=by omega):zaK w (some ⟨g,0,none⟩) n n xs:=zbm.row h (by omega)
section
variable {K K':Nat}{xs ys:List Rat}{A B:oA9}{n n' c d:Nat}{w:World}
theorem vec_dot (hT:zal w)(ha:zaK w A n c xs)(hb:zaK w B n d ys)(hx:zaE K xs)(hy:zaE K' ys)(hn:n<=1073741824:=by omega)(hK:K<=67108864:=by omega)(hK':K'<=67108864:=by omega)(hS:1+n*(K+K'+1)<=67108864:=by omega):
  Calls Tryz.prog 113 #[.slice A n c,.slice B n d] w (zdg w (zgn xs ys) true):=by
 have hla:=ha.len
 have hlb:=hb.len
 obtain⟨bx1,bx2,bz⟩:=zaA w 48 #[.bool false,.slice none 0 0,.slice none 0 0]
 have H:=lh9 (znN (λx y=>x*y) 138 #[] xs ys A B n c d _ (ha.keep bx1) (hb.keep bx1) hn en_mul (λi hi w' hb' b b' A A' n n' c c' E E' k k' f f' h1 h2=>by
  rw [Array.append_empty]
  exact q_mul ((hT.on bx1).on hb') h1 h2 (hx.at_ (by omega)) (hy.at_ (by omega)) hK hK'))
 have HT:=lh9 (λw' (hb:Below w.heap.size w w')=>hT.on hb)
 have hB:=bx1
 have HK:=lh9 bx2
 have HS:=lh9 (zaE.mul hx hy)
 have hN:=hn
 have hS9:=lh9 hS
 clear ha hb hx hy hT bx1 bx2 bz hla hlb hS
 go_enter Tryz.func113,Tryz.ntmps113
 go_wp2_with fail
 refine H.out.mono ?_
 rintro e w1 ⟨g,rfl,-,h2,hb⟩
 have hB:=zac hB hb
 have hk:=zae hb HK.out
 have HV:=lh9 (zbl h2 hN)
 clear hb HK h2 H
 go_wp2_with fail
 refine(q_sum (HT.out _ hB) HV.out HS.out hN hS9.out).mono ?_
 rintro e w2 ⟨b2,A2,n2,c2,E2,k2,f2,rfl,hw2,hb⟩
 have hB2:=zac hB hb
 have hk2:=zae hb hk
 obtain⟨sc0,sf0,sc1,sf1,sc2,sf2⟩:=st3 hk2 (.bool b2) (.slice A2 n2 c2)
 obtain⟨r0,r1,r2⟩:=(sn3 hk2 (.bool b2) (.slice A2 n2 c2) (.slice E2 k2 f2)).c3
 have HG:=lh9 (gb3 (r:=zgn xs ys) true hw2 hk2 hB2 (Nat.le_refl _))
 clear hb hB hk hB2 hk2 hw2 HV HS
 go_wp2
 refine bodyPost_ret (v:=.tuple #[.agg #[.bool b2,.slice A2 n2 c2,.slice E2 k2 f2],.bool true]) (by simp [results,Tryz.results113,go_sem,r0,r1,r2]) rfl ?_
 exact HG.out
end
structure zgH (w:World)(A:oA9)(n:Nat)(Ls:List (List Rat)):Prop where
 len:Ls.length=n
 num:∀i L,Ls[i]?=some L->∃(ad:Addr) (B:oA9) (d:Nat),A=some ad/\ad.block<w.heap.size/\w.cell? (ad.add i)=some (.slice B L.length d)/\zaK w B L.length d L
theorem zgH.below {w w':World}{A:oA9}{n:Nat}{Ls:List (List Rat)}(h:zgH w A n Ls)(hb:Below w.heap.size w w'):zgH w' A n Ls:=
 ⟨h.len,λi L hi=>by
  obtain⟨ad,B,d,e,h1,h2,h3⟩:=h.num i L hi
  exact⟨ad,B,d,e,Nat.lt_of_lt_of_le h1 hb.size,zad hb h2,h3.keep hb⟩⟩
theorem zdh {α:Type}{xs:List α}{k:Nat}{d:α}(h:k<xs.length):xs[k]?=some (xs.getD k d):=by
 rw [List.getD_eq_getElem?_getD,List.getElem?_eq_getElem h];rfl
section
variable {K L:Nat}{rs:List Rat}{Ls:List (List Rat)}{A B:oA9}{n n' c d:Nat}{w:World}
end
def zbC (u:Value):Prop:=∃A n c,u=.slice A n c
def zbD (w:World)(v:Value):Prop:=∀g,v.ownBlock=some g->∃(cur:Array Value) (e:TypeId),w.heap[g]?=some (.cells cur e (0,0))/\∀u ∈ cur.toList,zbC u
theorem zbD.nil (w:World)(c:Nat):zbD w (.slice none 0 c):=λg h=>by simp [Value.ownBlock] at h
theorem zbD.block {w w':World}{v:Value}(h:zbD w v)(hg:∀g,v.ownBlock=some g->w'.heap[g]?=w.heap[g]?):zbD w' v:=λg e=>by
 obtain⟨cur,t,h1,h2⟩:=h g e
 exact⟨cur,t,(hg g e).trans h1,h2⟩
theorem zbD.below {w w':World}{v:Value}(h:zbD w v)(hb:Below w.heap.size w w'):zbD w' v:=λg e=>by
 obtain⟨cur,t,h1,h2⟩:=h g e
 exact⟨cur,t,(hb.block g (Array.getElem?_eq_some_iff.1 h1).1).trans h1,h2⟩
theorem ziP {z:Array Value}{k:Nat}{u:Value}(hz:0<z.size)(hu:u ∈(Builtin.zeroCells z k).toList):u ∈ z.toList:=by
 unfold Builtin.zeroCells at hu
 rw [Array.mem_toList_iff,Array.mem_map] at hu
 obtain⟨i,_,rfl⟩:=hu
 have hlt:i%z.size<z.size:=Nat.mod_lt _ hz
 rw [getElem!_pos z (i%z.size) hlt,Array.mem_toList_iff]
 exact Array.getElem_mem hlt
section
variable {P:Program}(w:World)
theorem zfE (base:Nat)(t ty e:TypeId)(i:TypeInfo)(z:Value)(size bytes:Nat)(ht:P.underlying t=some (.slice e))(hi:P.info? e=some i)(hz:i.zero=some z)
  (hsize:i.size=size) (hby:i.bytes=bytes) (hzs:z.cells.size=size) (hsz:0<size)
  (v:Value) (n:Nat) (xs:List Value) (hown:w.ownsRow base e size v n xs)
  (a:Addr) (m c:Nat) (news:List Value) (hl:news.length=m*size) (hnews:∀j u,news[j]?=some u->w.cell? (a.add j)=some u) (h1:∀u ∈ news,u.oneCell'=true)
  (h63:n+m<=maxLen) (hbytes:(n+m)*bytes<=140737488355328) (hbase:base<=w.heap.size)
  (hv:zbD w v) (hzn:∀u ∈ z.cells.toList,zbC u) (hnn:∀u ∈ news,zbC u):
  ∃ v' w',(Builtin.append_ #[t,t] ty #[v,.slice (some a) m c]).run P w = .ok v' w' ∧ w'.ownsRow base e size v' (n + m) (xs ++ news) ∧ w.grownBy w' v.ownBlock ∧
   (v'.ownBlock=v.ownBlock\/v'.ownBlock=some w.heap.size)/\zbD w' v':=by
 subst hsize
 subst hby
 have hsmall:n+m<=9223372036854775807:=by simp only [maxLen] at h63;omega
 have hlen:(xs++news).length=(n+m)*i.size:=by rw [List.length_append,hown.1,hl,Nat.add_mul]
 have grown : ∀ (old : Nat),old < n + m → (∀ u ∈ xs,zbC u) → ∀ (row : Option Nat),
   (w.drew.alloc (.cells (xs.toArray ++ news.toArray ++ Builtin.zeroCells z.cells (grownCap w (n + m) old e - (n + m))) e)).ownsRow base e i.size
     (.slice (some ⟨w.heap.size,0,none⟩) (n+m) (grownCap w (n+m) old e)) (n+m) (xs++news)/\
   w.grownBy (w.drew.alloc (.cells (xs.toArray++news.toArray++Builtin.zeroCells z.cells (grownCap w (n+m) old e - (n+m))) e)) row/\
   zbD (w.drew.alloc (.cells (xs.toArray++news.toArray++Builtin.zeroCells z.cells (grownCap w (n+m) old e - (n+m))) e)) (.slice (some ⟨w.heap.size,0,none⟩) (n+m) (grownCap w (n+m) old e)):=by
  intro old ho hxs row
  have hge:=grownCap_ge w (n+m) old e
  have hcm:grownCap w (n+m) old e<=maxLen:=grownCap_le_maxLen w (n+m) old e h63
  refine⟨⟨hlen,.inr ⟨w.heap.size,_,_,rfl,hbase,heap_alloc_new w.drew _,hge,hcm,?_,?_⟩⟩,⟨rfl,rfl,rfl,by simp,λk hk _=>heap_alloc_old w.drew _ hk⟩,?_⟩
  ·simp only [Array.size_append,List.size_toArray,size_zeroCells,hzs,hown.1,hl,<-Nat.add_mul]
   congr 1
   omega
  ·simp only [Array.toList_append,List.append_assoc]
   rw [<-List.append_assoc,<-hlen]
   exact List.take_left
  ·intro g hg
   simp [Value.ownBlock] at hg
   subst hg
   refine⟨_,_,heap_alloc_new w.drew _,λu hu=>?_⟩
   simp only [Array.toList_append,List.mem_append] at hu
   rcases hu with(hu|hu)|hu
   ·exact hxs u hu
   ·exact hnn u hu
   ·exact hzn u (ziP (by omega) hu)
 rcases hown.2 with⟨rfl,rfl⟩|⟨g,cap,cur,rfl,hbg,hg,hnc,hcm,hcs,htake⟩
 ·have hx:xs=[]:=List.eq_nil_of_length_eq_zero (by simpa using hown.1)
  subst hx
  by_cases hm:m=0
  ·subst hm
   have hn:news=[]:=List.eq_nil_of_length_eq_zero (by simpa using hl)
   subst hn
   refine⟨.slice none 0 0,w,?_,World.ownsRow_nil w base e i.size,⟨rfl,rfl,rfl,Nat.le_refl _,λ_ _ _=>rfl⟩,Or.inl rfl,zbD.nil _ _⟩
   simp [Builtin.append_,run_underlying ht,sizeOf,typeInfo,hi,Builtin.lenOf,Builtin.firstCells,loadCells,loadCellsFrom]
  ·have hr:=run_append_nil (P:=P) w t ty e i z ht hi hz a m c news hl hnews (by omega) (by omega) (by have hb:=hbytes;simp only [Nat.zero_add] at hb;omega)
   have hgr:=grown 0 (by omega) (λu hu=>by cases hu) (Value.ownBlock (.slice none 0 0))
   simp only [Nat.zero_add,List.nil_append,Array.empty_append] at hgr⊢
   exact⟨_,_,hr,hgr.1,hgr.2.1,Or.inr rfl,hgr.2.2⟩
 ·obtain⟨cur2,e2,hg2,hcn⟩:=hv g rfl
  have hcur:cur2=cur:=by
   rw [hg] at hg2
   injection hg2 with hg2
   injection hg2 with hg2
   exact hg2.symm
  subst hcur
  by_cases hroom:n+m<=cap
  ·have hfit:n*i.size+news.length<=cur2.size:=by rw [hl,hcs,<-Nat.add_mul];exact Nat.mul_le_mul_right _ hroom
   have hr:=run_append_room (P:=P) w t ty e i ht hi g n cap cur2 hg a m c news hl hnews h1 hroom hfit
   refine⟨_,_,hr,⟨hlen,.inr ⟨g,cap,_,rfl,hbg,setRow_heap w g cur2 _ e _ hg,hroom,hcm,?_,?_⟩⟩,⟨rfl,rfl,rfl,by simp,λk _ hk=>setRow_other w g k _ (λe=>hk (by simp [Value.ownBlock,e]))⟩,Or.inl rfl,?_⟩
   ·simp only [List.size_toArray,List.length_append,List.length_take,List.length_drop,Array.length_toList]
    omega
   ·rw [htake,<-hlen]
    exact List.take_left
   ·intro g' hg'
    simp [Value.ownBlock] at hg'
    subst hg'
    refine⟨_,_,setRow_heap w g cur2 _ e _ hg,λu hu=>?_⟩
    rw [List.mem_append,List.mem_append] at hu
    rcases hu with(hu|hu)|hu
    ·exact hcn u (List.mem_of_mem_take hu)
    ·exact hnn u hu
    ·exact hcn u (List.mem_of_mem_drop hu)
  ·have holds:∀j u,xs[j]?=some u->w.cell? ((⟨g,0,none⟩:Addr).add j)=some u:=hown.cells (g:=g) rfl
   have hr:=run_append_grow (P:=P) w t ty e i z ht hi hz ⟨g,0,none⟩ n cap xs hown.1 holds a m c news hl hnews (by omega) (by omega) (growslice_fits (by omega) hbytes)
   have hxs:∀u ∈ xs,zbC u:=λu hu=>hcn u (List.mem_of_mem_take (by rw [htake];exact hu))
   have hgr:=grown cap (by omega) hxs (Value.ownBlock (.slice (some ⟨g,0,none⟩) n cap))
   exact⟨_,_,hr,hgr.1,hgr.2.1,Or.inr rfl,hgr.2.2⟩
theorem zbH {ops:Array Oper}{rest:List Oper}{o:Oper}{a:Act}{Q:Exit->Act->World->Prop}(hgd:o.guard=none)(s x:Operand)(t:TypeId)
  (ho:o.op=.call {callee:=.builtin .append,args:=#[s,x],argTypes:=#[t,t]})
  (base:Nat) (e:TypeId) (i:TypeInfo) (z:Value) (size bytes:Nat) (ht:P.underlying t=some (.slice e)) (hi:P.info? e=some i) (hz:i.zero=some z)
  (hsize:i.size=size) (hby:i.bytes=bytes) (hzs:z.cells.size=size) (hsz:0<size)
  (v:Value) (n:Nat) (xs:List Value) (hs:a.eval s=v) (hown:w.ownsRow base e size v n xs)
  (ad:Addr) (m c:Nat) (news:List Value) (hx:a.eval x=.slice (some ad) m c) (hl:news.length=m*size) (hnews:∀j u,news[j]?=some u->w.cell? (ad.add j)=some u) (h1:∀u ∈ news,u.oneCell'=true)
  (h63:n+m<=maxLen) (hbytes:(n+m)*bytes<=140737488355328) (hbase:base<=w.heap.size)
  (hv:zbD w v) (hzn:∀u ∈ z.cells.toList,zbC u) (hnn:∀u ∈ news,zbC u)
  (h:∀v' w',w'.ownsRow base e size v' (n+m) (xs++news)->w.grownBy w' v.ownBlock->(v'.ownBlock=v.ownBlock\/v'.ownBlock=some w.heap.size)->zbD w' v'->wpList P ops Q rest (a.put o.dst v') w'):
  wpList P ops Q (o::rest) a w:=by
 refine wpList_plain hgd λK hK=>?_
 obtain⟨v',w',hr,h2,h3,h4,h5⟩:=zfE (P:=P) w base t o.type e i z size bytes ht hi hz hsize hby hzs hsz v n xs hown ad m c news hl hnews h1 h63 hbytes hbase hv hzn hnn
 unfold Oper.wp execOp
 simp only [ho,resolve,invoke,builtin,Sem.run_bind,Sem.run_pure,Result.andThen_ok,List.map_toArray,List.map_cons,List.map_nil,hs,hx,hr]
 exact hK _ _ (h v' w' h2 h3 h4 h5)
end
theorem zbD.blk {w:World}{v:Value}{g:Nat}(h:zbD w v)(hg:v.ownBlock=some g):∃(t:TypeId) (cs:Array Value),Blk w g t cs/\∀u ∈ cs.toList,zbC u:=by
 obtain⟨cur,e,h1,h2⟩:=h g hg
 exact⟨e,cur,h1,h2⟩
theorem vec_offS {w w':World}{A:oA9}{n c g:Nat}{xs:List Rat}{t:TypeId}{cs:Array Value}(h:zaK w A n c xs)(hk:Blk w g t cs)(hs:∀u ∈ cs.toList,zbC u)(ho:zcx g w w'):zaK w' A n c xs:=by
 refine⟨h.len,h.fits,h.most,λi x hi=>?_⟩
 obtain⟨ad,b,B,m,d,F,u,v,e,h1,h2,h3,h4,h5⟩:=h.num i x hi
 have hne:ad.block≠g:=λhg=>by
  have hb:(ad.add (i*3)).block=g:=by rw [zao];exact hg
  generalize ad.add (i*3)=q at hb h2
  obtain⟨bk,off,pr⟩:=q
  simp only at hb
  subst hb
  unfold Blk at hk
  cases pr with
  |none=>
    rw [show w.cell? ⟨bk,off,none⟩=cs[off]? from cell_of_row w bk off _ t (0,0) hk,<-Array.getElem?_toList] at h2
    obtain⟨A9,n9,c9,e9⟩:=hs _ (List.mem_of_getElem? h2)
    cases e9
  |some q=>simp [World.cell?,hk] at h2
 have hnu:NoU cs:=λq hq k z e9=>by
  obtain⟨A9,n9,c9,e8⟩:=hs q hq
  rw [e8] at e9
  cases e9
 have hc:∀j,w'.cell? (ad.add j)=w.cell? (ad.add j):=λj=>ho.2 _ (by rw [zao];exact h1) (by rw [zao];exact hne)
 exact⟨ad,b,B,m,d,F,u,v,e,Nat.lt_of_lt_of_le h1 ho.1,(hc _).trans h2,(hc _).trans h3,(hc _).trans h4,zaq.offg h5 hk hnu ho⟩
theorem zjP {w w':World}{v:Value}{A:oA9}{n c:Nat}{xs:List Rat}(h:zaK w A n c xs)(hg:w.grownBy w' v.ownBlock)(hn:zbD w v):zaK w' A n c xs:=by
 cases hv:v.ownBlock with
 |none=>rw [hv] at hg;exact h.keep (zdC hg)
 |some g=>
   rw [hv] at hg
   obtain⟨t,cs,hk,hc⟩:=hn.blk hv
   exact vec_offS h hk hc (zcx.of_grown hg)
structure zct (w:World)(base:Nat)(v:Value)(Ls:List (List Rat))(vs:List Value):Prop where
 own:w.ownsRow base 51 1 v Ls.length vs
 sl:zbD w v
 num:∀(i:Nat) (L:List Rat),Ls[i]?=some L->∃(B:oA9) (d:Nat),vs[i]?=some (Value.slice B L.length d)/\zaK w B L.length d L
theorem zct.nil (w:World)(base:Nat):zct w base (.slice none 0 0) [] []:=⟨World.ownsRow_nil _ _ _ _,zbD.nil _ _,λi L hi=>by simp at hi⟩
theorem zct.len {w:World}{base:Nat}{v:Value}{Ls:List (List Rat)}{vs:List Value}(h:zct w base v Ls vs):vs.length=Ls.length:=by have:=h.own.1;omega
theorem zct.shape {w:World}{base n:Nat}{v:Value}{Ls:List (List Rat)}{vs:List Value}(h:zct w base v Ls vs)(hn:Ls.length=n):∃A c,v=.slice A n c/\zgH w A n Ls:=by
 subst hn
 obtain⟨A,c,e,h1,h2,h3⟩:=zas.of_grown_own h.own
 refine⟨A,c,e,rfl,λi L hi=>?_⟩
 obtain⟨B,d,hv,hw⟩:=h.num i L hi
 have hlt:=(List.getElem?_eq_some_iff.1 hi).1
 obtain⟨ad,ea,hb,hc⟩:=h3.2 (by omega)
 exact⟨ad,B,d,ea,hb,hc i _ hv,hw⟩
theorem zct.below {w w':World}{base:Nat}{v:Value}{Ls:List (List Rat)}{vs:List Value}(h:zct w base v Ls vs)(hb:Below w.heap.size w w'):zct w' base v Ls vs:=by
 refine⟨⟨h.own.1,?_⟩,h.sl.below hb,λi L hi=>?_⟩
 ·rcases h.own.2 with h1|⟨g,cap,cur,e1,e2,e3,e4⟩
  ·exact .inl h1
  ·exact .inr ⟨g,cap,cur,e1,e2,(hb.block g (Blk.lt (t:=51) (cs:=cur) e3)).trans e3,e4⟩
 ·obtain⟨B,d,hv,hw⟩:=h.num i L hi
  exact⟨B,d,hv,hw.keep hb⟩
theorem zct.grow {w w':World}{base n:Nat}{v v':Value}{Ls:List (List Rat)}{vs:List Value}{L:List Rat}{B:oA9}{d:Nat}(h:zct w base v Ls vs)(hx:zaK w B L.length d L)
  (ho:w'.ownsRow base 51 1 v' n (vs++[.slice B L.length d])) (hn:n=Ls.length+1) (hg:w.grownBy w' v.ownBlock) (hs:zbD w' v'):zct w' base v' (Ls++[L]) (vs++[.slice B L.length d]):=by
 have hl:=h.len
 refine⟨by rw [List.length_append,List.length_singleton,<-hn];exact ho,hs,λi M hi=>?_⟩
 by_cases hlt:i<Ls.length
 ·rw [List.getElem?_append_left hlt] at hi
  obtain⟨C,e,hv,hw⟩:=h.num i M hi
  exact⟨C,e,by rw [List.getElem?_append_left (by omega)];exact hv,zjP hw hg h.sl⟩
 ·rw [List.getElem?_append_right (by omega)] at hi
  have hi2:i=Ls.length:=by
   have:=(List.getElem?_eq_some_iff.1 hi).1
   simp at this
   omega
  subst hi2
  obtain rfl:L=M:=by
   rw [Nat.sub_self] at hi
   injection hi
  exact⟨B,d,by rw [List.getElem?_append_right (by omega),hl,Nat.sub_self];rfl,zjP hx hg h.sl⟩
theorem zgp:(Tryz.prog.info? 51).map (λi=>(i.zero,i.size,i.bytes))=some (some (.slice none 0 0),1,24):=by kernel_rfl
theorem zgH.get {w:World}{A:oA9}{n:Nat}{Ls:List (List Rat)}(h:zgH w A n Ls){i m:Nat}(hi:i<n)(hm:(Ls.getD i []).length=m):∃(ad:Addr) (B:oA9) (d:Nat),A=some ad/\w.cell? (ad.add i)=some (.slice B m d)/\zaK w B m d (Ls.getD i []):=by
 have hl:=h.len
 obtain⟨ad,B,d,e,_,h1,h2⟩:=h.num i _ (zdh (d:=[]) (by omega))
 rw [hm] at h1 h2
 exact⟨ad,B,d,e,h1,h2⟩
abbrev zhJ:=Nat->oA9×Nat×Nat×List (Int×Int)
theorem zfS {zs:List Int}(h:∀z ∈ zs,-9223372036854775808<=z/\z<=9223372036854775807):zaE 1 (ofL zs):=λx hx=>by
 obtain⟨z,hz,rfl⟩:=List.mem_map.1 hx
 exact SzQ.whole (zel (h z hz).1 (h z hz).2) (by decide)
theorem zdl (zs:List Int)(n:Nat)(hn:zs.length=n){w:World}{g:Nat}{t:TypeId}(h:Blk w g t (zs.map (Value.int .i64)).toArray)(hz:∀z ∈ zs,-9223372036854775808<=z/\z<=9223372036854775807):zer w (some ⟨g,0,none⟩) n zs:=by
 subst hn
 exact⟨rfl,λi hi=>by
  rw [List.getD_eq_getElem?_getD,List.getElem?_eq_getElem hi]
  exact hz _ (List.getElem_mem hi),λi hi=>⟨_,rfl,by
  rw [zaM,h.cell,List.getD_eq_getElem?_getD,List.getElem?_eq_getElem hi]
  simp [hi]⟩⟩
theorem qc10:RatC zal (λ_=>False):=ratC (λ_ h=>h) (λh=>h.elim) (λh=>h.elim) (λh=>h.elim)
