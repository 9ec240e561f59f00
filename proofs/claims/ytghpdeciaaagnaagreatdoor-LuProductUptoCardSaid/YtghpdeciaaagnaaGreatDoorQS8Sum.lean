/- What this claim leans on. -/
import Derived.Test.YtghpdeciaaagnaaGreatDoorQJ8Add
namespace Go.Proofs.YtghpdeciaaagnaaGreatDoor
open Go Go.RowKit Go.Proofs.Tryz
set_option maxHeartbeats 16000000
set_option maxRecDepth 100000
set_option linter.unusedVariables false
set_option linter.unusedSimpArgs false
structure ziU (w:World)(A:oA9)(n c:Nat)(rs:List Rat):Prop where
 len:rs.length=n
 fits:n<=c
 most:c<=9223372036854775807
 num:∀i,i<n->∃(ad:Addr) (b:Bool) (B:oA9) (m d:Nat) (E:oA9) (u v:Nat),A=some ad/\ad.block<w.heap.size/\w.cell? (ad.add (i*3))=some (.bool b)/\w.cell? (ad.add (i*3+1))=some (.slice B m d)/\w.cell? (ad.add (i*3+2))=some (.slice E u v)/\zaf w (rs.getD i 0) b B m d E u v
theorem ziU.below {w w':World}{A:oA9}{n c:Nat}{rs:List Rat}(h:ziU w A n c rs)(hb:Below w.heap.size w w'):ziU w' A n c rs:=
 ⟨h.len,h.fits,h.most,λi hi=>by
  obtain⟨ad,b,B,m,d,E,u,v,e,h1,h2,h3,h4,h5⟩:=h.num i hi;exact⟨ad,b,B,m,d,E,u,v,e,Nat.lt_of_lt_of_le h1 hb.size,zac hb h2,zac hb h3,zac hb h4,h5.below hb⟩⟩
def ziE (rs:List Rat):Rat:=rs.foldl (λa b=>a+b) 0
theorem zrn (rs:List Rat)(r:Rat):ziE (rs++[r])=ziE rs+r:=by unfold ziE;rw [List.foldl_append];rfl
theorem zro (rs:List Rat)(k:Nat)(h:k<rs.length):ziE (rs.take (k+1))=ziE (rs.take k)+rs.getD k 0:=by
 rw [List.take_succ_eq_append_getElem h,zrn,List.getD_eq_getElem?_getD,List.getElem?_eq_getElem h];rfl
theorem zoP {w:World}{r:Rat}{b:Bool}{A E:oA9}{n c k f g:Nat}{t:TypeId}{p:Bool}{q q2:oA9}{r1 s r2 s2:Nat}(h:zaf w r b A n c E k f)(kd:Blk w g t #[.bool p,.slice q r1 s,.slice q2 r2 s2])(x y z:Value):
  zaf (((w.setCell ⟨g,0,none⟩ x).setCell ⟨g,1,none⟩ y).setCell ⟨g,2,none⟩ z) r b A n c E k f:=zbQ h kd (NoU.s3 _ _ _ _ _ _ _) (zce _ _ _ _ _)
theorem blk_far3 {w:World}{g g':Nat}{t:TypeId}{cs:Array Value}(h:Blk w g t cs)(a:g≠g')(x y z:Value):Blk (((w.setCell ⟨g',0,none⟩ x).setCell ⟨g',1,none⟩ y).setCell ⟨g',2,none⟩ z) g t cs:=((h.far (p:=⟨g',0,none⟩) a x).far (p:=⟨g',1,none⟩) a y).far (p:=⟨g',2,none⟩) a z
theorem cell_q1 {w:World}{ad:Addr}{k:Nat}{v:Value}(h:w.cell? (ad.add (k+1))=some v):w.cell? ⟨(ad.add k).block,(ad.add k).off+1,none⟩=some v:=by
 rw [<-Go.Deep.add_add] at h;exact h
theorem cell_q2 {w:World}{ad:Addr}{k:Nat}{v:Value}(h:w.cell? (ad.add (k+2))=some v):w.cell? ⟨(ad.add k).block,(ad.add k).off+2,none⟩=some v:=by
 rw [<-Go.Deep.add_add] at h;exact h
theorem rat_sum (rs:List Rat)(A:oA9)(n c K:Nat)(w:World)(hT:zai w)(h:ziU w A n c rs)(hn:n<=1073741824)(hK:K<=67108864)(he:∀i,i<n->SzQ K (rs.getD i 0))(hs:∀k,k<=n->SzQ K (ziE (rs.take k))):
  Calls prog 122 #[.slice A n c] w (zaE w (ziE rs)):=by
 have C:=up9 w (λw' h=>hT.on h);have HN:=up9 w (λw' hb=>h.below hb);have HS:=lh9 hs;have HE:=lh9 he;have B:=lh9 (λk (hk:k<n)=>zro rs k (by rw [h.len];exact hk));have HF:Hid (ziE (rs.take n)=ziE rs):=by
  show _=_;rw [List.take_of_length_le (by rw [h.len];exact Nat.le_refl _)]
 clear h hs he hT;go_enter func122,ntmps122;go_wp2_with fail;obtain⟨hB,a,hp,b5⟩:=zbO w 41 41 #[.bool false,.slice none 0 0,.slice none 0 0] #[.bool false,.slice none 0 0,.slice none 0 0];generalize hV:(w.alloc (.cells #[.bool false,.slice none 0 0,.slice none 0 0] 41)).alloc (.cells #[.bool false,.slice none 0 0,.slice none 0 0] 41)=V1 at*;clear hV b5;obtain⟨gp,y⟩:∃g,w.heap.size+1=g:=⟨_,rfl⟩;rw [y] at hp⊢;have hgw:w.heap.size<gp:=om9
 go_loopg [9] (n+1) (λg ix wr=>∃(k:Nat) (b:Bool) (Ap:oA9) (np cp:Nat) (Ep:oA9) (kp fp:Nat),k<=n/\n<g+k/\ix=.int .i64 k/\zaf wr (ziE (rs.take k)) b Ap np cp Ep kp fp/\Blk wr gp 41 #[.bool b,.slice Ap np cp,.slice Ep kp fp]/\Below w.heap.size w wr/\Blk wr w.heap.size 41 #[.bool false,.slice none 0 0,.slice none 0 0])
 case atStart=>exact⟨0,false,none,0,0,none,0,0,Nat.zero_le _,om9,rfl,zgb _,hp,hB,a⟩
 case round=>
  clear hp hB a y;obtain⟨k,b,Ap,np,cp,Ep,kp,fp,l,hg,rfl,hw,hp,hB,a⟩:=hrel;by_cases hlt:k<n
  ·obtain⟨ad,b1,B1,m1,d1,E1,u1,v1,rfl,hadb,E,f,j,hx⟩:=(HN.out _ hB).num k hlt;have HM:=up9 wr (λw' hb=>ziM (ziE (rs.take k)) (rs.getD k 0) b Ap np cp Ep kp fp b1 B1 m1 d1 E1 u1 v1 w' (C.out _ (zaa hB hb)) (hw.below hb) (hx.below hb) (SzQ.fit (HS.out k l) hw hK) (SzQ.fit (HE.out k hlt) hx hK));have f:=cell_q1 f;have j:=cell_q2 j;have i1:(0:Int)<=(k:Int):=om9;have i2:(k:Int)<(n:Int):=om9;obtain⟨p0,p1,p2⟩:=hp.c3;obtain⟨st,d2,d3⟩:=zax wr 41 #[.bool b1,.slice B1 m1 d1,.slice E1 u1 v1];obtain⟨q0,q1,q2⟩:=d2.c3;have p3:=zac st p0;have p4:=zac st p1;have p5:=zac st p2;have s:=lh9 (HM.out _ st);have o:=lh9 (zaa hB st);have t:=lh9 (zab st hp);have r:=lh9 (zab st a);clear hw hx hB hp a HM st d2 d3;go_wp2_with fail;refine s.out.mono ?_;rintro e w3 ⟨b3,A3,n3,c3,E3,k3,f3,rfl,m,hb⟩;rw [<-B.out k hlt] at m;have u:=zaa o.out hb;have d:=zab hb t.out;have z:=zab hb r.out;obtain⟨I,M,J,N,L,O⟩:=st3 d (.bool b3) (.slice A3 n3 c3);have H:=zoP m d (.bool b3) (.slice A3 n3 c3) (.slice E3 k3 f3);have D:=bl3 (.bool b3) (.slice A3 n3 c3) (.slice E3 k3 f3) (by show w.heap.size<=gp;omega) u;have G:=sn3 d (.bool b3) (.slice A3 n3 c3) (.slice E3 k3 f3);have F:=blk_far3 z (by show w.heap.size≠gp;omega) (.bool b3) (.slice A3 n3 c3) (.slice E3 k3 f3);clear hb u d z m s o t r E f j p0 p1 p2 p3 p4 p5 q0 q1 q2;go_wp2;go_roundg (n - k)
   case measure=>omega
   case rel=>exact⟨k+1,b3,A3,n3,c3,E3,k3,f3,om9,om9,by go_num,H,G,D,F⟩
  ·have l:k=n:=om9;subst l;rw [HF.out] at hw;obtain⟨p0,p1,p2⟩:=hp.c3;obtain⟨I,M,J,N,L,O⟩:=st3 a (.bool b) (.slice Ap np cp);obtain⟨r0,r1,r2⟩:=(sn3 a (.bool b) (.slice Ap np cp) (.slice Ep kp fp)).c3;have HG:=lh9 (gq3 hw a hB (Nat.le_refl _));clear hw hp a hB;go_wp2;refine bodyPost_ret (v:=.agg #[.bool b,.slice Ap np cp,.slice Ep kp fp]) (by simp [results,results122,go_sem,r0,r1,r2]) rfl ?_;exact HG.out
theorem zgt (p:Int)(w:World)(hT:zai w)(c: -9223372036854775808<=p)(d:p<=9223372036854775807):
  Calls prog 56 #[.int .i64 p] w (zaE w (p:Rat)):=by
 have g:=lh9 (zca (T:=zai));have HT:=up9 w (λw' hb=>hT.on hb);have HTB:=HT;obtain⟨K,i⟩:∃K,67108864=K:=⟨_,rfl⟩;have hKK:K<=67108864:=om9;have hK0:0<K:=om9;clear hT i;go_enter func56,ntmps56;have hB:=Below.refl w.heap.size w;obtain⟨a,b,bz⟩:=zax w 41 #[.bool false,.slice none 0 0,.slice none 0 0];have hB:=zaa hB a;have k1:=b;clear a b bz;go_wp2_with fail;generalize w.alloc (.cells #[.bool false,.slice none 0 0,.slice none 0 0] 41)=W1 at*;have HZ2:Hid (Sz (1) (p).natAbs):=(by show Int.natAbs p<18446744073709551616^1;have e1: -9223372036854775808<=p:=c;have e2:p<=9223372036854775807:=d;omega);(with_reducible refine(g.out.of p _ (HT.out _ hB) c d).mono ?_);rintro e wc2 ⟨b2,B2,m2,d2,rfl,f,hb⟩;have hB:=zaa hB hb;have k1:=zab hb k1;have h:=lh9 f;clear hb f;obtain⟨sc0,sf0,sc1,sf1,sc2,sf2⟩:=st3 k1 (.bool b2) (.slice B2 m2 d2);obtain⟨r0,r1,r2⟩:=(sn3 k1 (.bool b2) (.slice B2 m2 d2) (.slice none 0 0)).c3;have HG:=lh9 (gq3 (zfb h.out) k1 hB om9);go_wp2;refine bodyPost_ret (v:=.agg #[.bool b2,.slice B2 m2 d2,.slice none 0 0]) (by simp [results,results56,go_sem,r0,r1,r2]) rfl ?_;exact HG.out
theorem zhZ (z:Int)(d:Bool)(c:oA9)(a f:Nat)(w:World)(hT:zai w)(i:zaN w z d c a f)(r:a<=67108864):
  Calls prog 179 #[.agg #[.bool d,.slice c a f]] w (zaE w (z:Rat)):=by
 have HT:=up9 w (λw' hb=>hT.on hb);have HTB:=HT;obtain⟨K,o⟩:∃K,67108864=K:=⟨_,rfl⟩;have hKK:K<=67108864:=om9;have hK0:0<K:=om9;have g:=up9 w (λw' b=>i.below b);have h:Hid (Sz K z.natAbs):=Sz.of_words i.words om9;clear i r;clear hT o;go_enter func179,ntmps179;have hB:=Below.refl w.heap.size w;obtain⟨j,k,l,bz⟩:=zbO w 39 41 #[.bool d,.slice c a f] #[.bool false,.slice none 0 0,.slice none 0 0];have hB:=zaa hB j;obtain⟨g1,e1⟩:=k.c2;have k2:=l;clear j k l bz;go_wp2_with fail;generalize (w.alloc (.cells #[.bool d,.slice c a f] 39)).alloc (.cells #[.bool false,.slice none 0 0,.slice none 0 0] 41)=W1 at*;have HZ3:Hid (Sz (K) (z).natAbs):=h.out;(with_reducible refine(zgU (z) d c a f _ (HT.out _ hB) (g.out _ hB) (szi h (g.out _ hB))).mono ?_);rintro e wc2 ⟨b3,B3,m3,d3,rfl,m,hb⟩;have hB:=zaa hB hb;obtain⟨g1,e1⟩:=zac2 hb g1 e1;have k2:=zab hb k2;have n:=lh9 m;clear hb m;obtain⟨sc0,sf0,sc1,sf1,sc2,sf2⟩:=st3 k2 (.bool b3) (.slice B3 m3 d3);obtain⟨r0,r1,r2⟩:=(sn3 k2 (.bool b3) (.slice B3 m3 d3) (.slice none 0 0)).c3;have HG:=lh9 (gq3 (zfb n.out) k2 hB om9);go_wp2;refine bodyPost_ret (v:=.agg #[.bool b3,.slice B3 m3 d3,.slice none 0 0]) (by simp [results,results179,go_sem,r0,r1,r2]) rfl ?_;exact HG.out
structure zhL (w:World)(A:oA9)(n:Nat)(Ls:List (List Rat)):Prop where
 len:Ls.length=n
 num:∀i L,Ls[i]?=some L->∃(ad:Addr) (B:oA9) (d:Nat),A=some ad/\ad.block<w.heap.size/\w.cell? (ad.add i)=some (.slice B L.length d)/\zaH w B L.length d L
theorem zhL.below {w w':World}{A:oA9}{n:Nat}{Ls:List (List Rat)}(h:zhL w A n Ls)(hb:Below w.heap.size w w'):zhL w' A n Ls:=
 ⟨h.len,λi L hi=>by
  obtain⟨ad,B,d,e,h1,h2,h3⟩:=h.num i L hi;exact⟨ad,B,d,e,Nat.lt_of_lt_of_le h1 hb.size,zac hb h2,h3.keep hb⟩⟩
theorem zbi {α:Type}{xs:List α}{k:Nat}{d:α}(h:k<xs.length):xs[k]?=some (xs.getD k d):=by
 rw [List.getD_eq_getElem?_getD,List.getElem?_eq_getElem h];rfl
section
variable {K L:Nat}{rs:List Rat}{Ls:List (List Rat)}{A B:oA9}{n n' c d:Nat}{w:World}
end
def zcv (u:Value):Prop:=∃A n c,u=.slice A n c
def zbM (w:World)(v:Value):Prop:=∀g,v.ownBlock=some g->∃(cur:Array Value) (e:TypeId),w.heap[g]?=some (.cells cur e (0,0))/\∀u ∈ cur.toList,zcv u
theorem zbM.nil (w:World)(c:Nat):zbM w (.slice none 0 c):=λg h=>by simp [Value.ownBlock] at h
theorem zbM.block {w w':World}{v:Value}(h:zbM w v)(hg:∀g,v.ownBlock=some g->w'.heap[g]?=w.heap[g]?):zbM w' v:=λg e=>by
 obtain⟨a,t,h1,h2⟩:=h g e;exact⟨a,t,(hg g e).trans h1,h2⟩
theorem zbM.below {w w':World}{v:Value}(h:zbM w v)(hb:Below w.heap.size w w'):zbM w' v:=λg e=>by
 obtain⟨a,t,h1,h2⟩:=h g e;exact⟨a,t,(hb.block g (Array.getElem?_eq_some_iff.1 h1).1).trans h1,h2⟩
theorem zgi {z:Array Value}{k:Nat}{u:Value}(hz:0<z.size)(hu:u ∈(Builtin.zeroCells z k).toList):u ∈ z.toList:=by
 unfold Builtin.zeroCells at hu;rw [Array.mem_toList_iff,Array.mem_map] at hu;obtain⟨i,_,rfl⟩:=hu;have a:i%z.size<z.size:=Nat.mod_lt _ hz;rw [getElem!_pos z (i%z.size) a,Array.mem_toList_iff];exact Array.getElem_mem a
section
variable {P:Program}(w:World)
theorem zgF (h:Nat)(t ty e:TypeId)(i:TypeInfo)(z:Value)(size bytes:Nat)(ht:P.underlying t=some (.slice e))(hi:P.info? e=some i)(hz:i.zero=some z)
  (F:i.size=size) (M:i.bytes=bytes) (Q:z.cells.size=size) (hsz:0<size)
  (v:Value) (n:Nat) (xs:List Value) (f:w.ownsRow h e size v n xs)
  (a:Addr) (m c:Nat) (b:List Value) (hl:b.length=m*size) (r:∀j u,b[j]?=some u->w.cell? (a.add j)=some u) (h1:∀u ∈ b,u.oneCell'=true)
  (H:n+m<=maxLen) (s:(n+m)*bytes<=140737488355328) (B:h<=w.heap.size)
  (hv:zbM w v) (O:∀u ∈ z.cells.toList,zcv u) (L:∀u ∈ b,zcv u):
  ∃ v' w',(Builtin.append_ #[t,t] ty #[v,.slice (some a) m c]).run P w = .ok v' w' ∧ w'.ownsRow h e size v' (n + m) (xs ++ b) ∧ w.grownBy w' v.ownBlock ∧
   (v'.ownBlock=v.ownBlock\/v'.ownBlock=some w.heap.size)/\zbM w' v':=by
 subst F;subst M;have hsmall:n+m<=9223372036854775807:=by simp only [maxLen] at H;omega
 have y:(xs++b).length=(n+m)*i.size:=by rw [List.length_append,f.1,hl,Nat.add_mul]
 have grown : ∀ (d : Nat),d < n + m → (∀ u ∈ xs,zcv u) → ∀ (row : Option Nat),
   (w.drew.alloc (.cells (xs.toArray ++ b.toArray ++ Builtin.zeroCells z.cells (grownCap w (n + m) d e - (n + m))) e)).ownsRow h e i.size
     (.slice (some ⟨w.heap.size,0,none⟩) (n+m) (grownCap w (n+m) d e)) (n+m) (xs++b)/\
   w.grownBy (w.drew.alloc (.cells (xs.toArray++b.toArray++Builtin.zeroCells z.cells (grownCap w (n+m) d e - (n+m))) e)) row/\
   zbM (w.drew.alloc (.cells (xs.toArray++b.toArray++Builtin.zeroCells z.cells (grownCap w (n+m) d e - (n+m))) e)) (.slice (some ⟨w.heap.size,0,none⟩) (n+m) (grownCap w (n+m) d e)):=by
  intro d ho G row;have N:=grownCap_ge w (n+m) d e;have C:grownCap w (n+m) d e<=maxLen:=grownCap_le_maxLen w (n+m) d e H;refine⟨⟨y,.inr ⟨w.heap.size,_,_,rfl,B,heap_alloc_new w.drew _,N,C,?_,?_⟩⟩,⟨rfl,rfl,rfl,si9,λk hk _=>heap_alloc_old w.drew _ hk⟩,?_⟩
  ·simp only [Array.size_append,List.size_toArray,size_zeroCells,Q,f.1,hl,<-Nat.add_mul];congr 1;omega
  ·simp only [Array.toList_append,List.append_assoc];rw [<-List.append_assoc,<-y];exact List.take_left
  ·intro g hg;simp [Value.ownBlock] at hg;subst hg;refine⟨_,_,heap_alloc_new w.drew _,λu hu=>?_⟩;simp only [Array.toList_append,List.mem_append] at hu;rcases hu with(hu|hu)|hu
   ·exact G u hu
   ·exact L u hu
   ·exact O u (zgi om9 hu)
 rcases f.2 with⟨rfl,rfl⟩|⟨g,cap,cur,rfl,hbg,hg,hnc,C,hcs,htake⟩
 ·have hx:xs=[]:=List.eq_nil_of_length_eq_zero (by simpa using f.1);subst hx;by_cases hm:m=0
  ·subst hm;have hn:b=[]:=List.eq_nil_of_length_eq_zero (by simpa using hl);subst hn;refine⟨.slice none 0 0,w,?_,World.ownsRow_nil w h e i.size,⟨rfl,rfl,rfl,Nat.le_refl _,λ_ _ _=>rfl⟩,Or.inl rfl,zbM.nil _ _⟩;simp [Builtin.append_,run_underlying ht,sizeOf,typeInfo,hi,Builtin.lenOf,Builtin.firstCells,loadCells,loadCellsFrom]
  ·have hr:=run_append_nil (P:=P) w t ty e i z ht hi hz a m c b hl r om9 om9 (by have hb:=s;simp only [Nat.zero_add] at hb;omega);have o:=grown 0 om9 (λu hu=>by cases hu) (Value.ownBlock (.slice none 0 0));simp only [Nat.zero_add,List.nil_append,Array.empty_append] at o⊢;exact⟨_,_,hr,o.1,o.2.1,Or.inr rfl,o.2.2⟩
 ·obtain⟨l,e2,A,D⟩:=hv g rfl;have I:l=cur:=by
   rw [hg] at A;injection A with A;injection A with A;exact A.symm
  subst I;by_cases hroom:n+m<=cap
  ·have J:n*i.size+b.length<=l.size:=by rw [hl,hcs,<-Nat.add_mul];exact Nat.mul_le_mul_right _ hroom
   have hr:=run_append_room (P:=P) w t ty e i ht hi g n cap l hg a m c b hl r h1 hroom J;refine⟨_,_,hr,⟨y,.inr ⟨g,cap,_,rfl,hbg,setRow_heap w g l _ e _ hg,hroom,C,?_,?_⟩⟩,⟨rfl,rfl,rfl,si9,λk _ hk=>setRow_other w g k _ (λe=>hk (by simp [Value.ownBlock,e]))⟩,Or.inl rfl,?_⟩
   ·simp only [List.size_toArray,List.length_append,List.length_take,List.length_drop,Array.length_toList];omega
   ·rw [htake,<-y];exact List.take_left
   ·intro g' K;simp [Value.ownBlock] at K;subst K;refine⟨_,_,setRow_heap w g l _ e _ hg,λu hu=>?_⟩;rw [List.mem_append,List.mem_append] at hu;rcases hu with(hu|hu)|hu
    ·exact D u (List.mem_of_mem_take hu)
    ·exact L u hu
    ·exact D u (List.mem_of_mem_drop hu)
  ·have E:∀j u,xs[j]?=some u->w.cell? ((⟨g,0,none⟩:Addr).add j)=some u:=f.cells (g:=g) rfl;have hr:=run_append_grow (P:=P) w t ty e i z ht hi hz ⟨g,0,none⟩ n cap xs f.1 E a m c b hl r om9 om9 (growslice_fits om9 s);have G:∀u ∈ xs,zcv u:=λu hu=>D u (List.mem_of_mem_take (by rw [htake];exact hu));have o:=grown cap om9 G (Value.ownBlock (.slice (some ⟨g,0,none⟩) n cap));exact⟨_,_,hr,o.1,o.2.1,Or.inr rfl,o.2.2⟩
theorem zdA {y:Array Oper}{rest:List Oper}{o:Oper}{a:Act}{Q:Exit->Act->World->Prop}(C:o.guard=none)(s x:Operand)(t:TypeId)
  (ho:o.op=.call {callee:=.builtin .append,args:=#[s,x],argTypes:=#[t,t]})
  (d:Nat) (e:TypeId) (i:TypeInfo) (z:Value) (size bytes:Nat) (ht:P.underlying t=some (.slice e)) (hi:P.info? e=some i) (hz:i.zero=some z)
  (l:i.size=size) (B:i.bytes=bytes) (F:z.cells.size=size) (hsz:0<size)
  (v:Value) (n:Nat) (xs:List Value) (hs:a.eval s=v) (r:w.ownsRow d e size v n xs)
  (ad:Addr) (m c:Nat) (b:List Value) (hx:a.eval x=.slice (some ad) m c) (hl:b.length=m*size) (k:∀j u,b[j]?=some u->w.cell? (ad.add j)=some u) (h1:∀u ∈ b,u.oneCell'=true)
  (A:n+m<=maxLen) (f:(n+m)*bytes<=140737488355328) (g:d<=w.heap.size)
  (hv:zbM w v) (E:∀u ∈ z.cells.toList,zcv u) (D:∀u ∈ b,zcv u)
  (h:∀v' w',w'.ownsRow d e size v' (n+m) (xs++b)->w.grownBy w' v.ownBlock->(v'.ownBlock=v.ownBlock\/v'.ownBlock=some w.heap.size)->zbM w' v'->wpList P y Q rest (a.put o.dst v') w'):
  wpList P y Q (o::rest) a w:=by
 refine wpList_plain C λK hK=>?_;obtain⟨v',w',hr,h2,h3,h4,h5⟩:=zgF (P:=P) w d t o.type e i z size bytes ht hi hz l B F hsz v n xs r ad m c b hl k h1 A f g hv E D;unfold Oper.wp execOp;simp only [ho,resolve,invoke,builtin,Sem.run_bind,Sem.run_pure,Result.andThen_ok,List.map_toArray,List.map_cons,List.map_nil,hs,hx,hr];exact hK _ _ (h v' w' h2 h3 h4 h5)
end
theorem zbM.blk {w:World}{v:Value}{g:Nat}(h:zbM w v)(hg:v.ownBlock=some g):∃(t:TypeId) (cs:Array Value),Blk w g t cs/\∀u ∈ cs.toList,zcv u:=by
 obtain⟨a,e,h1,h2⟩:=h g hg;exact⟨e,a,h1,h2⟩
theorem vec_offS {w w':World}{A:oA9}{n c g:Nat}{xs:List Rat}{t:TypeId}{cs:Array Value}(h:zaH w A n c xs)(hk:Blk w g t cs)(hs:∀u ∈ cs.toList,zcv u)(ho:zaV g w w'):zaH w' A n c xs:=by
 refine⟨h.len,h.fits,h.most,λi x hi=>?_⟩;obtain⟨ad,b,B,m,d,F,u,v,e,h1,h2,h3,h4,h5⟩:=h.num i x hi;have a:ad.block≠g:=λhg=>by
  have hb:(ad.add (i*3)).block=g:=by rw [zah];exact hg
  generalize ad.add (i*3)=q at hb h2;obtain⟨bk,off,pr⟩:=q;simp only at hb;subst hb;unfold Blk at hk;cases pr with
  |none=>
    rw [show w.cell? ⟨bk,off,none⟩=cs[off]? from cell_of_row w bk off _ t (0,0) hk,<-Array.getElem?_toList] at h2;obtain⟨A9,n9,c9,e9⟩:=hs _ (List.mem_of_getElem? h2);cases e9
  |some q=>simp [World.cell?,hk] at h2
 have f:NoU cs:=λq hq k z e9=>by
  obtain⟨A9,n9,c9,e8⟩:=hs q hq;rw [e8] at e9;cases e9
 have hc:∀j,w'.cell? (ad.add j)=w.cell? (ad.add j):=λj=>ho.2 _ (by rw [zah];exact h1) (by rw [zah];exact a);exact⟨ad,b,B,m,d,F,u,v,e,Nat.lt_of_lt_of_le h1 ho.1,(hc _).trans h2,(hc _).trans h3,(hc _).trans h4,zak.offg h5 hk f ho⟩
theorem zlb {w w':World}{v:Value}{A:oA9}{n c:Nat}{xs:List Rat}(h:zaH w A n c xs)(hg:w.grownBy w' v.ownBlock)(hn:zbM w v):zaH w' A n c xs:=by
 cases hv:v.ownBlock with
 |none=>rw [hv] at hg;exact h.keep (zaX hg)
 |some g=>
   rw [hv] at hg;obtain⟨t,cs,hk,hc⟩:=hn.blk hv;exact vec_offS h hk hc (zaV.of_grown hg)
structure zcV (w:World)(base:Nat)(v:Value)(Ls:List (List Rat))(vs:List Value):Prop where
 own:w.ownsRow base 61 1 v Ls.length vs
 sl:zbM w v
 num:∀(i:Nat) (L:List Rat),Ls[i]?=some L->∃(B:oA9) (d:Nat),vs[i]?=some (Value.slice B L.length d)/\zaH w B L.length d L
theorem zcV.nil (w:World)(a:Nat):zcV w a (.slice none 0 0) [] []:=⟨World.ownsRow_nil _ _ _ _,zbM.nil _ _,λi L hi=>by simp at hi⟩
theorem zcV.len {w:World}{a:Nat}{v:Value}{Ls:List (List Rat)}{vs:List Value}(h:zcV w a v Ls vs):vs.length=Ls.length:=by have:=h.own.1;omega
theorem zcV.shape {w:World}{a n:Nat}{v:Value}{Ls:List (List Rat)}{vs:List Value}(h:zcV w a v Ls vs)(hn:Ls.length=n):∃A c,v=.slice A n c/\zhL w A n Ls:=by
 subst hn;obtain⟨A,c,e,h1,h2,h3⟩:=zaw.of_grown_own h.own;refine⟨A,c,e,rfl,λi L hi=>?_⟩;obtain⟨B,d,hv,hw⟩:=h.num i L hi;have hlt:=(List.getElem?_eq_some_iff.1 hi).1;obtain⟨ad,ea,hb,hc⟩:=h3.2 om9;exact⟨ad,B,d,ea,hb,hc i _ hv,hw⟩
theorem zcV.below {w w':World}{a:Nat}{v:Value}{Ls:List (List Rat)}{vs:List Value}(h:zcV w a v Ls vs)(hb:Below w.heap.size w w'):zcV w' a v Ls vs:=by
 refine⟨⟨h.own.1,?_⟩,h.sl.below hb,λi L hi=>?_⟩
 ·rcases h.own.2 with h1|⟨g,cap,cur,e1,e2,e3,e4⟩
  ·exact .inl h1
  ·exact .inr ⟨g,cap,cur,e1,e2,(hb.block g (Blk.lt (t:=61) (cs:=cur) e3)).trans e3,e4⟩
 ·obtain⟨B,d,hv,hw⟩:=h.num i L hi;exact⟨B,d,hv,hw.keep hb⟩
theorem zcV.grow {w w':World}{a n:Nat}{v v':Value}{Ls:List (List Rat)}{vs:List Value}{L:List Rat}{B:oA9}{d:Nat}(h:zcV w a v Ls vs)(hx:zaH w B L.length d L)
  (ho:w'.ownsRow a 61 1 v' n (vs++[.slice B L.length d])) (hn:n=Ls.length+1) (hg:w.grownBy w' v.ownBlock) (hs:zbM w' v'):zcV w' a v' (Ls++[L]) (vs++[.slice B L.length d]):=by
 have hl:=h.len;refine⟨by rw [List.length_append,List.length_singleton,<-hn];exact ho,hs,λi M hi=>?_⟩;by_cases hlt:i<Ls.length
 ·rw [List.getElem?_append_left hlt] at hi;obtain⟨C,e,hv,hw⟩:=h.num i M hi;exact⟨C,e,by rw [List.getElem?_append_left om9];exact hv,zlb hw hg h.sl⟩
 ·rw [List.getElem?_append_right om9] at hi;have b:i=Ls.length:=by
   have:=(List.getElem?_eq_some_iff.1 hi).1;simp at this;omega
  subst b;obtain rfl:L=M:=by
   rw [Nat.sub_self] at hi;injection hi
  exact⟨B,d,by rw [List.getElem?_append_right om9,hl,Nat.sub_self];rfl,zlb hx hg h.sl⟩
theorem zgq:(prog.info? 61).map (λi=>(i.zero,i.size,i.bytes))=some (some (.slice none 0 0),1,24):=kr9
theorem zhL.get {w:World}{A:oA9}{n:Nat}{Ls:List (List Rat)}(h:zhL w A n Ls){i m:Nat}(hi:i<n)(hm:(Ls.getD i []).length=m):∃(ad:Addr) (B:oA9) (d:Nat),A=some ad/\w.cell? (ad.add i)=some (.slice B m d)/\zaH w B m d (Ls.getD i []):=by
 have hl:=h.len;obtain⟨ad,B,d,e,_,h1,h2⟩:=h.num i _ (zbi (d:=[]) om9);rw [hm] at h1 h2;exact⟨ad,B,d,e,h1,h2⟩
abbrev ziV:=Nat->oA9×Nat×Nat×List (Int×Int)
theorem zgV:zco RefQ where
 below h hb:=h.below hb
 offg h hk hcs ho:=⟨⟨h.1.1,zjn h.1.2 hk hcs ho⟩,zjn h.2 hk hcs ho⟩
abbrev zhK (w:World)(A:oA9)(n c:Nat)(xs:List Rat):Prop:=zaM RefQ w A n c xs
theorem zhK.keep {w w':World}{A:oA9}{n c:Nat}{xs:List Rat}(h:zhK w A n c xs)(hb:Below w.heap.size w w'):zhK w' A n c xs:=zaM.below zgV h hb
theorem zhK.get {w wr:World}{A:oA9}{n c:Nat}{xs:List Rat}(h:zhK w A n c xs)(hb:Below w.heap.size w wr){i:Nat}(hi:i<n):∃(ad:Addr) (b:Bool) (B:oA9) (m d:Nat) (F:oA9) (u v:Nat),A=some ad/\ad.block<w.heap.size/\wr.cell? (ad.add (i*3))=some (.bool b)/\wr.cell? ⟨(ad.add (i*3)).block,(ad.add (i*3)).off+1,none⟩=some (.slice B m d)/\wr.cell? ⟨(ad.add (i*3)).block,(ad.add (i*3)).off+2,none⟩=some (.slice F u v)/\RefQ wr (xs.getD i 0) b B m d F u v:=by
 obtain⟨ad,b,B,m,d,F,u,v,e,h0,h1,h2,h3,h4⟩:=h.at_ hi 0;exact⟨ad,b,B,m,d,F,u,v,e,h0,zac hb h1,zac hb (ziG h2),zac hb (zpo h3),h4.below hb⟩
