/- What this claim leans on. -/
import Derived.Test.YtielpgdebeggbaaGreatDoorWJ8Add
set_option linter.unusedVariables false
set_option linter.unusedSimpArgs false
namespace Go.Proofs.YtielpgdebeggbaaGreatDoor
open Go Go.RowKit Go.Proofs.Tryz
set_option maxHeartbeats 16000000
set_option maxRecDepth 100000
variable {ad:Addr}{cs:Array Value}{Ls:List (List Rat)}{xs:List Rat}{vs:List Value}{a c g k n:Nat}{t:TypeId}{v:Value}{w w':World}{A:ze}
structure fF (w:World)(A:ze)(n c:Nat)(rs:List Rat):Prop where
 len:rs.length=n
 fits:n<=c
 most:c<=9223372036854775807
 num:∀i,i<n->∃(ad:Addr) (b:Bool) (B:ze) (m d:Nat) (E:ze) (u v:Nat),A=some ad/\ad.block<w.heap.size/\w.cell? (ad.add (i*3))=some (.bool b)/\w.cell? (ad.add (i*3+1))=some (.slice B m d)/\w.cell? (ad.add (i*3+2))=some (.slice E u v)/\zo w (rs.getD i 0) b B m d E u v
theorem fF.below {rs:List Rat}(h:fF w A n c rs)(hb:Below w.heap.size w w'):fF w' A n c rs:=
 ⟨h.len,h.fits,h.most,λi hi=>by
  obtain⟨ad,b,B,m,d,E,u,v,e,h1,h2,h3,h4,h5⟩:=h.num i hi;exact⟨ad,b,B,m,d,E,u,v,e,qJ h1 hb.size,zv hb h2,zv hb h3,zv hb h4,h5.below hb⟩⟩
def sR (rs:List Rat):Rat:=rs.foldl (λa b=>a+b) 0
theorem Qi (rs:List Rat)(r:Rat):sR (rs++[r])=sR rs+r:=by unfold sR;rw [yI];rfl
theorem Qj (rs:List Rat)(k:Nat)(h:k<rs.length):sR (rs.take (k+1))=sR (rs.take k)+rs.getD k 0:=by
 rw [QZ h,Qi,qQ,qY h];rfl
theorem Rs {r:Rat}{b:Bool}{E:ze}{f:Nat}{p:Bool}{q q2:ze}{r1 s r2 s2:Nat}(h:zo w r b A n c E k f)(kd:zh w g t #[.bool p,.slice q r1 s,.slice q2 r2 s2])(x y z:Value):
  zo (((w.setCell ⟨g,0,none⟩ x).setCell ⟨g,1,none⟩ y).setCell ⟨g,2,none⟩ z) r b A n c E k f:=jS h kd (zV.s3 _ _ _ _ _ _ _) (wB _ _ _ _ _)
theorem ro {g':Nat}(h:zh w g t cs)(a:g≠g')(x y z:Value):zh (((w.setCell ⟨g',0,none⟩ x).setCell ⟨g',1,none⟩ y).setCell ⟨g',2,none⟩ z) g t cs:=((h.far (p:=⟨g',0,none⟩) a x).far (p:=⟨g',1,none⟩) a y).far (p:=⟨g',2,none⟩) a z
theorem nc (h:w.cell? (ad.add (k+1))=some v):w.cell? ⟨(ad.add k).block,(ad.add k).off+1,none⟩=some v:=by
 rw [<-Go.Deep.add_add] at h;exact h
theorem nf (h:w.cell? (ad.add (k+2))=some v):w.cell? ⟨(ad.add k).block,(ad.add k).off+2,none⟩=some v:=by
 rw [<-Go.Deep.add_add] at h;exact h
theorem mu (rs:List Rat)(A:ze)(n c K:Nat)(w:World)(hT:zt w)(h:fF w A n c rs)(hn:n<=1073741824)(hK:K<=67108864)(he:∀i,i<n->zn K (rs.getD i 0))(hs:∀k,k<=n->zn K (sR (rs.take k))):
  Calls prog 59 #[.slice A n c] w (yi w (sR rs)):=by
 have F:=zj w (λw' h=>hT.on h);have HN:=zj w (λw' hb=>h.below hb);have HS:=za hs;have HE:=za he;have E:=za (λk (hk:k<n)=>Qj rs k (by rw [h.len];exact hk));have HF:zd (sR (rs.take n)=sR rs):=by
  show _=_;rw [qV (by rw [h.len];exact qX _)]
 clear h hs he hT;go_enter func59,ntmps59;go_wp2_with fail;obtain⟨hB,a,hp,b5⟩:=yz w 52 52 #[.bool false,.slice none 0 0,.slice none 0 0] #[.bool false,.slice none 0 0,.slice none 0 0];generalize hV:(w.alloc (.cells #[.bool false,.slice none 0 0,.slice none 0 0] 52)).alloc (.cells #[.bool false,.slice none 0 0,.slice none 0 0] 52)=V1 at*;clear hV b5;obtain⟨gp,C⟩:∃g,w.heap.size+1=g:=⟨_,rfl⟩;rw [C] at hp⊢;have hgw:w.heap.size<gp:=zb
 go_loopg [9] (n+1) (λg ix wr=>∃(k:Nat) (b:Bool) (Ap:ze) (np cp:Nat) (Ep:ze) (kp fp:Nat),k<=n/\n<g+k/\ix=.int .i64 k/\zo wr (sR (rs.take k)) b Ap np cp Ep kp fp/\zh wr gp 52 #[.bool b,.slice Ap np cp,.slice Ep kp fp]/\Below w.heap.size w wr/\zh wr w.heap.size 52 #[.bool false,.slice none 0 0,.slice none 0 0])
 case atStart=>exact⟨0,false,none,0,0,none,0,0,qW _,zb,rfl,aB _,hp,hB,a⟩
 case round=>
  clear hp hB a C;obtain⟨k,b,Ap,np,cp,Ep,kp,fp,o,hg,rfl,hw,hp,hB,a⟩:=hrel;by_cases hlt:k<n
  ·obtain⟨ad,b1,B1,m1,d1,E1,u1,v1,rfl,hadb,H,j,m,hx⟩:=(HN.o _ hB).num k hlt;have HM:=zj wr (λw' hb=>cE (sR (rs.take k)) (rs.getD k 0) b Ap np cp Ep kp fp b1 B1 m1 d1 E1 u1 v1 w' (F.o _ (zc hB hb)) (hw.below hb) (hx.below hb) (zn.fit (HS.o k o) hw hK) (zn.fit (HE.o k hlt) hx hK));have j:=nc j;have m:=nf m;have i1:(0:Int)<=(k:Int):=zb;have i2:(k:Int)<(n:Int):=zb;obtain⟨p0,p1,p2⟩:=hp.c3;obtain⟨st,d2,d3⟩:=zu wr 52 #[.bool b1,.slice B1 m1 d1,.slice E1 u1 v1];obtain⟨q0,q1,q2⟩:=d2.c3;have p3:=zv st p0;have p4:=zv st p1;have p5:=zv st p2;have y:=za (HM.o _ st);have t:=za (zc hB st);have z:=za (zg st hp);have u:=za (zg st a);clear hw hx hB hp a HM st d2 d3;go_wp2_with fail;refine y.o.mono ?_;rintro e w3 ⟨b3,A3,n3,c3,E3,k3,f3,rfl,s,hb⟩;rw [<-E.o k hlt] at s;have B:=zc t.o hb;have d:=zg hb z.o;have D:=zg hb u.o;obtain⟨M,P,N,Q,O,R⟩:=zY d (.bool b3) (.slice A3 n3 c3);have L:=Rs s d (.bool b3) (.slice A3 n3 c3) (.slice E3 k3 f3);have G:=wF (.bool b3) (.slice A3 n3 c3) (.slice E3 k3 f3) (by show w.heap.size<=gp;omega) B;have J:=z6 d (.bool b3) (.slice A3 n3 c3) (.slice E3 k3 f3);have I:=ro D (by show w.heap.size≠gp;omega) (.bool b3) (.slice A3 n3 c3) (.slice E3 k3 f3);clear hb B d D s y t z u H j m p0 p1 p2 p3 p4 p5 q0 q1 q2;go_wp2;go_roundg (n - k)
   case measure=>omega
   case rel=>exact⟨k+1,b3,A3,n3,c3,E3,k3,f3,zb,zb,by go_num,L,J,G,I⟩
  ·have o:k=n:=zb;subst o;rw [HF.o] at hw;obtain⟨p0,p1,p2⟩:=hp.c3;obtain⟨M,P,N,Q,O,R⟩:=zY a (.bool b) (.slice Ap np cp);obtain⟨r0,r1,r2⟩:=(z6 a (.bool b) (.slice Ap np cp) (.slice Ep kp fp)).c3;have HG:=za (wR hw a hB (qX _));clear hw hp a hB;go_wp2;refine bodyPost_ret (v:=.agg #[.bool b,.slice Ap np cp,.slice Ep kp fp]) (by simp [results,results59,go_sem,r0,r1,r2]) rfl ?_;exact HG.o
theorem jo (p:Int)(w:World)(hT:zt w)(d: -9223372036854775808<=p)(g:p<=9223372036854775807):
  Calls prog 25 #[.int .i64 p] w (yi w (p:Rat)):=by
 have i:=za (va (T:=zt));have HT:=zj w (λw' hb=>hT.on hb);have HTB:=HT;obtain⟨K,k⟩:∃K,67108864=K:=⟨_,rfl⟩;have hKK:K<=67108864:=zb;have hK0:0<K:=zb;clear hT k;go_enter func25,ntmps25;have hB:=qZ w.heap.size w;obtain⟨a,c,bz⟩:=zu w 52 #[.bool false,.slice none 0 0,.slice none 0 0];have hB:=zc hB a;have k1:=c;clear a c bz;go_wp2_with fail;generalize w.alloc (.cells #[.bool false,.slice none 0 0,.slice none 0 0] 52)=W1 at*;have HZ2:zd (Sz (1) (p).natAbs):=(by show Int.natAbs p<18446744073709551616^1;have e1: -9223372036854775808<=p:=d;have e2:p<=9223372036854775807:=g;omega);(with_reducible refine(i.o.of p _ (HT.o _ hB) d g).mono ?_);rintro e wc2 ⟨b2,B2,m2,d2,rfl,h,hb⟩;have hB:=zc hB hb;have k1:=zg hb k1;have j:=za h;clear hb h;obtain⟨sc0,sf0,sc1,sf1,sc2,sf2⟩:=zY k1 (.bool b2) (.slice B2 m2 d2);obtain⟨r0,r1,r2⟩:=(z6 k1 (.bool b2) (.slice B2 m2 d2) (.slice none 0 0)).c3;have HG:=za (wR (dJ j.o) k1 hB zb);go_wp2;refine bodyPost_ret (v:=.agg #[.bool b2,.slice B2 m2 d2,.slice none 0 0]) (by simp [results,results25,go_sem,r0,r1,r2]) rfl ?_;exact HG.o
theorem R4 (z:Int)(d:Bool)(c:ze)(a g:Nat)(w:World)(hT:zt w)(j:yf w z d c a g)(u:a<=67108864):
  Calls prog 121 #[.agg #[.bool d,.slice c a g]] w (yi w (z:Rat)):=by
 have HT:=zj w (λw' hb=>hT.on hb);have HTB:=HT;obtain⟨K,t⟩:∃K,67108864=K:=⟨_,rfl⟩;have hKK:K<=67108864:=zb;have hK0:0<K:=zb;have h:=zj w (λw' b=>j.below b);have i:zd (Sz K z.natAbs):=Sz.of_words j.words zb;clear j u;clear hT t;go_enter func121,ntmps121;have hB:=qZ w.heap.size w;obtain⟨k,m,n,bz⟩:=yz w 50 52 #[.bool d,.slice c a g] #[.bool false,.slice none 0 0,.slice none 0 0];have hB:=zc hB k;obtain⟨g1,e1⟩:=m.c2;have k2:=n;clear k m n bz;go_wp2_with fail;generalize (w.alloc (.cells #[.bool d,.slice c a g] 50)).alloc (.cells #[.bool false,.slice none 0 0,.slice none 0 0] 52)=W1 at*;have HZ3:zd (Sz (K) (z).natAbs):=i.o;(with_reducible refine(aK (z) d c a g _ (HT.o _ hB) (h.o _ hB) (yw i (h.o _ hB))).mono ?_);rintro e wc2 ⟨b3,B3,m3,d3,rfl,o,hb⟩;have hB:=zc hB hb;obtain⟨g1,e1⟩:=xh hb g1 e1;have k2:=zg hb k2;have s:=za o;clear hb o;obtain⟨sc0,sf0,sc1,sf1,sc2,sf2⟩:=zY k2 (.bool b3) (.slice B3 m3 d3);obtain⟨r0,r1,r2⟩:=(z6 k2 (.bool b3) (.slice B3 m3 d3) (.slice none 0 0)).c3;have HG:=za (wR (dJ s.o) k2 hB zb);go_wp2;refine bodyPost_ret (v:=.agg #[.bool b3,.slice B3 m3 d3,.slice none 0 0]) (by simp [results,results121,go_sem,r0,r1,r2]) rfl ?_;exact HG.o
structure iq (w:World)(A:ze)(n:Nat)(Ls:List (List Rat)):Prop where
 len:Ls.length=n
 num:∀i L,Ls[i]?=some L->∃(ad:Addr) (B:ze) (d:Nat),A=some ad/\ad.block<w.heap.size/\w.cell? (ad.add i)=some (.slice B L.length d)/\zR w B L.length d L
theorem iq.below (h:iq w A n Ls)(hb:Below w.heap.size w w'):iq w' A n Ls:=
 ⟨h.len,λi L hi=>by
  obtain⟨ad,B,d,e,h1,h2,h3⟩:=h.num i L hi;exact⟨ad,B,d,e,qJ h1 hb.size,zv hb h2,h3.keep hb⟩⟩
theorem wy {α:Type}{xs:List α}{d:α}(h:k<xs.length):xs[k]?=some (xs.getD k d):=by
 rw [qQ,qY h];rfl
section
variable {K L:Nat}{rs:List Rat}{Ls:List (List Rat)}{A B:ze}{n n' c d:Nat}{w:World}
end
def xp (u:Value):Prop:=∃A n c,u=.slice A n c
def wm (w:World)(v:Value):Prop:=∀g,v.ownBlock=some g->∃(cur:Array Value) (e:TypeId),w.heap[g]?=some (.cells cur e (0,0))/\∀u ∈ cur.toList,xp u
theorem wm.nil (w:World)(c:Nat):wm w (.slice none 0 c):=λg h=>by simp [Value.ownBlock] at h
theorem wm.block (h:wm w v)(hg:∀g,v.ownBlock=some g->w'.heap[g]?=w.heap[g]?):wm w' v:=λg e=>by
 obtain⟨a,t,h1,h2⟩:=h g e;exact⟨a,t,(hg g e).trans h1,h2⟩
theorem wm.below (h:wm w v)(hb:Below w.heap.size w w'):wm w' v:=λg e=>by
 obtain⟨a,t,h1,h2⟩:=h g e;exact⟨a,t,(hb.block g (Array.getElem?_eq_some_iff.1 h1).1).trans h1,h2⟩
theorem Ys {z:Array Value}{u:Value}(hz:0<z.size)(hu:u ∈(Builtin.zeroCells z k).toList):u ∈ z.toList:=by
 unfold Builtin.zeroCells at hu;rw [yN,Array.mem_map] at hu;obtain⟨i,_,rfl⟩:=hu;have a:i%z.size<z.size:=xG _ hz;rw [getElem!_pos z (i%z.size) a,yN];exact Array.getElem_mem a
section
variable {P:Program}(w:World)
theorem Yl (o:Nat)(t ty e:TypeId)(i:TypeInfo)(z:Value)(size bytes:Nat)(ht:P.underlying t=some (.slice e))(hi:P.info? e=some i)(hz:i.zero=some z)
  (I:i.size=size) (Q:i.bytes=bytes) (T:z.cells.size=size) (hsz:0<size)
  (v:Value) (n:Nat) (xs:List Value) (h:w.ownsRow o e size v n xs)
  (a:Addr) (m c:Nat) (d:List Value) (hl:d.length=m*size) (A:∀j u,d[j]?=some u->w.cell? (a.add j)=some u) (h1:∀u ∈ d,u.oneCell'=true)
  (K:n+m<=maxLen) (B:(n+m)*bytes<=140737488355328) (E:o<=w.heap.size)
  (hv:wm w v) (S:∀u ∈ z.cells.toList,xp u) (O:∀u ∈ d,xp u):
  ∃ v' w',(Builtin.append_ #[t,t] ty #[v,.slice (some a) m c]).run P w = .ok v' w' ∧ w'.ownsRow o e size v' (n + m) (xs ++ d) ∧ w.grownBy w' v.ownBlock ∧
   (v'.ownBlock=v.ownBlock\/v'.ownBlock=some w.heap.size)/\wm w' v':=by
 subst I;subst Q;have hsmall:n+m<=9223372036854775807:=by simp only [maxLen] at K;omega
 have C:(xs++d).length=(n+m)*i.size:=by rw [qB,h.1,hl,QE]
 have grown : ∀ (old : Nat),old < n + m → (∀ u ∈ xs,xp u) → ∀ (row : Option Nat),
   (w.drew.alloc (.cells (xs.toArray ++ d.toArray ++ Builtin.zeroCells z.cells (grownCap w (n + m) old e - (n + m))) e)).ownsRow o e i.size
     (.slice (some ⟨w.heap.size,0,none⟩) (n+m) (grownCap w (n+m) old e)) (n+m) (xs++d)/\
   w.grownBy (w.drew.alloc (.cells (xs.toArray++d.toArray++Builtin.zeroCells z.cells (grownCap w (n+m) old e - (n+m))) e)) row/\
   wm (w.drew.alloc (.cells (xs.toArray++d.toArray++Builtin.zeroCells z.cells (grownCap w (n+m) old e - (n+m))) e)) (.slice (some ⟨w.heap.size,0,none⟩) (n+m) (grownCap w (n+m) old e)):=by
  intro old ho J row;have R:=grownCap_ge w (n+m) old e;have F:grownCap w (n+m) old e<=maxLen:=grownCap_le_maxLen w (n+m) old e K;refine⟨⟨C,.inr ⟨w.heap.size,_,_,rfl,E,heap_alloc_new w.drew _,R,F,?_,?_⟩⟩,⟨rfl,rfl,rfl,zA,λk hk _=>heap_alloc_old w.drew _ hk⟩,?_⟩
  ·simp only [Array.size_append,XU,size_zeroCells,T,h.1,hl,<-QE];congr 1;omega
  ·simp only [YK,xX];rw [<-xX,<-C];exact jJ
  ·intro g hg;simp [Value.ownBlock] at hg;subst hg;refine⟨_,_,heap_alloc_new w.drew _,λu hu=>?_⟩;simp only [YK,XW] at hu;rcases hu with(hu|hu)|hu
   ·exact J u hu
   ·exact O u hu
   ·exact S u (Ys zb hu)
 rcases h.2 with⟨rfl,rfl⟩|⟨g,cap,cur,rfl,hbg,hg,hnc,F,hcs,htake⟩
 ·have hx:xs=[]:=QU (by simpa using h.1);subst hx;by_cases hm:m=0
  ·subst hm;have hn:d=[]:=QU (by simpa using hl);subst hn;refine⟨.slice none 0 0,w,?_,XO w o e i.size,⟨rfl,rfl,rfl,qX _,λ_ _ _=>rfl⟩,Or.inl rfl,wm.nil _ _⟩;simp [Builtin.append_,run_underlying ht,sizeOf,typeInfo,hi,Builtin.lenOf,Builtin.firstCells,loadCells,loadCellsFrom]
  ·have hr:=run_append_nil (P:=P) w t ty e i z ht hi hz a m c d hl A zb zb (by have hb:=B;simp only [xB] at hb;omega);have y:=grown 0 zb (λu hu=>by cases hu) (Value.ownBlock (.slice none 0 0));simp only [xB,XC,Array.empty_append] at y⊢;exact⟨_,_,hr,y.1,y.2.1,Or.inr rfl,y.2.2⟩
 ·obtain⟨s,e2,D,G⟩:=hv g rfl;have L:s=cur:=by
   rw [hg] at D;injection D with D;injection D with D;exact D.symm
  subst L;by_cases hroom:n+m<=cap
  ·have M:n*i.size+d.length<=s.size:=by rw [hl,hcs,<-QE];exact qS _ hroom
   have hr:=run_append_room (P:=P) w t ty e i ht hi g n cap s hg a m c d hl A h1 hroom M;refine⟨_,_,hr,⟨C,.inr ⟨g,cap,_,rfl,hbg,setRow_heap w g s _ e _ hg,hroom,F,?_,?_⟩⟩,⟨rfl,rfl,rfl,zA,λk _ hk=>setRow_other w g k _ (λe=>hk (by simp [Value.ownBlock,e]))⟩,Or.inl rfl,?_⟩
   ·simp only [XU,qB,qA,xZ,XP];omega
   ·rw [htake,<-C];exact jJ
   ·intro g' N;simp [Value.ownBlock] at N;subst N;refine⟨_,_,setRow_heap w g s _ e _ hg,λu hu=>?_⟩;rw [XW,XW] at hu;rcases hu with(hu|hu)|hu
    ·exact G u (xT hu)
    ·exact O u hu
    ·exact G u (XV hu)
  ·have H:∀j u,xs[j]?=some u->w.cell? ((⟨g,0,none⟩:Addr).add j)=some u:=h.cells (g:=g) rfl;have hr:=run_append_grow (P:=P) w t ty e i z ht hi hz ⟨g,0,none⟩ n cap xs h.1 H a m c d hl A zb zb (growslice_fits zb B);have J:∀u ∈ xs,xp u:=λu hu=>G u (xT (by rw [htake];exact hu));have y:=grown cap zb J (Value.ownBlock (.slice (some ⟨g,0,none⟩) n cap));exact⟨_,_,hr,y.1,y.2.1,Or.inr rfl,y.2.2⟩
theorem bH {D:Array Oper}{rest:List Oper}{o:Oper}{a:Act}{Q:Exit->Act->World->Prop}(G:o.guard=none)(s x:Operand)(t:TypeId)
  (ho:o.op=.call {callee:=.builtin .append,args:=#[s,x],argTypes:=#[t,t]})
  (g:Nat) (e:TypeId) (i:TypeInfo) (z:Value) (size bytes:Nat) (ht:P.underlying t=some (.slice e)) (hi:P.info? e=some i) (hz:i.zero=some z)
  (B:i.size=size) (F:i.bytes=bytes) (J:z.cells.size=size) (hsz:0<size)
  (v:Value) (n:Nat) (xs:List Value) (hs:a.eval s=v) (C:w.ownsRow g e size v n xs)
  (ad:Addr) (m c:Nat) (d:List Value) (hx:a.eval x=.slice (some ad) m c) (hl:d.length=m*size) (A:∀j u,d[j]?=some u->w.cell? (ad.add j)=some u) (h1:∀u ∈ d,u.oneCell'=true)
  (E:n+m<=maxLen) (k:(n+m)*bytes<=140737488355328) (y:g<=w.heap.size)
  (hv:wm w v) (I:∀u ∈ z.cells.toList,xp u) (H:∀u ∈ d,xp u)
  (h:∀v' w',w'.ownsRow g e size v' (n+m) (xs++d)->w.grownBy w' v.ownBlock->(v'.ownBlock=v.ownBlock\/v'.ownBlock=some w.heap.size)->wm w' v'->wpList P D Q rest (a.put o.dst v') w'):
  wpList P D Q (o::rest) a w:=by
 refine wpList_plain G λK hK=>?_;obtain⟨v',w',hr,h2,h3,h4,h5⟩:=Yl (P:=P) w g t o.type e i z size bytes ht hi hz B F J hsz v n xs C ad m c d hl A h1 E k y hv I H;unfold Oper.wp execOp;simp only [ho,resolve,invoke,builtin,Sem.run_bind,Sem.run_pure,Result.andThen_ok,YG,yK,List.map_nil,hs,hx,hr];exact hK _ _ (h v' w' h2 h3 h4 h5)
end
theorem wm.blk (h:wm w v)(hg:v.ownBlock=some g):∃(t:TypeId) (cs:Array Value),zh w g t cs/\∀u ∈ cs.toList,xp u:=by
 obtain⟨a,e,h1,h2⟩:=h g hg;exact⟨e,a,h1,h2⟩
theorem pV (h:zR w A n c xs)(hk:zh w g t cs)(hs:∀u ∈ cs.toList,xp u)(ho:zP g w w'):zR w' A n c xs:=by
 refine⟨h.len,h.fits,h.most,λi x hi=>?_⟩;obtain⟨ad,b,B,m,d,F,u,v,e,h1,h2,h3,h4,h5⟩:=h.num i x hi;have a:ad.block≠g:=λhg=>by
  have hb:(ad.add (i*3)).block=g:=by rw [yk];exact hg
  generalize ad.add (i*3)=q at hb h2;obtain⟨bk,off,pr⟩:=q;simp only at hb;subst hb;unfold zh at hk;cases pr with
  |none=>
    rw [show w.cell? ⟨bk,off,none⟩=cs[off]? from cell_of_row w bk off _ t (0,0) hk,<-QS] at h2;obtain⟨A9,n9,c9,e9⟩:=hs _ (QJ h2);cases e9
  |some q=>simp [World.cell?,hk] at h2
 have o:zV cs:=λq hq k z e9=>by
  obtain⟨A9,n9,c9,e8⟩:=hs q hq;rw [e8] at e9;cases e9
 have hc:∀j,w'.cell? (ad.add j)=w.cell? (ad.add j):=λj=>ho.2 _ (by rw [yk];exact h1) (by rw [yk];exact a);exact⟨ad,b,B,m,d,F,u,v,e,qJ h1 ho.1,(hc _).trans h2,(hc _).trans h3,(hc _).trans h4,zZ.offg h5 hk o ho⟩
theorem Vm (h:zR w A n c xs)(hg:w.grownBy w' v.ownBlock)(hn:wm w v):zR w' A n c xs:=by
 cases hv:v.ownBlock with
 |none=>rw [hv] at hg;exact h.keep (su hg)
 |some g=>
   rw [hv] at hg;obtain⟨t,cs,hk,hc⟩:=hn.blk hv;exact pV h hk hc (zP.of_grown hg)
structure sA (w:World)(base:Nat)(v:Value)(Ls:List (List Rat))(vs:List Value):Prop where
 own:w.ownsRow base 41 1 v Ls.length vs
 sl:wm w v
 num:∀(i:Nat) (L:List Rat),Ls[i]?=some L->∃(B:ze) (d:Nat),vs[i]?=some (Value.slice B L.length d)/\zR w B L.length d L
theorem sA.nil (w:World)(a:Nat):sA w a (.slice none 0 0) [] []:=⟨XO _ _ _ _,wm.nil _ _,λi L hi=>by simp at hi⟩
theorem sA.len (h:sA w a v Ls vs):vs.length=Ls.length:=by have:=h.own.1;omega
theorem sA.shape {n:Nat}(h:sA w a v Ls vs)(hn:Ls.length=n):∃A c,v=.slice A n c/\iq w A n Ls:=by
 subst hn;obtain⟨A,c,e,h1,h2,h3⟩:=zK.of_grown_own h.own;refine⟨A,c,e,rfl,λi L hi=>?_⟩;obtain⟨B,d,hv,hw⟩:=h.num i L hi;have hlt:=(List.getElem?_eq_some_iff.1 hi).1;obtain⟨ad,ea,hb,hc⟩:=h3.2 zb;exact⟨ad,B,d,ea,hb,hc i _ hv,hw⟩
theorem sA.below (h:sA w a v Ls vs)(hb:Below w.heap.size w w'):sA w' a v Ls vs:=by
 refine⟨⟨h.own.1,?_⟩,h.sl.below hb,λi L hi=>?_⟩
 ·rcases h.own.2 with h1|⟨g,cap,cur,e1,e2,e3,e4⟩
  ·exact .inl h1
  ·exact .inr ⟨g,cap,cur,e1,e2,(hb.block g (zh.lt (t:=41) (cs:=cur) e3)).trans e3,e4⟩
 ·obtain⟨B,d,hv,hw⟩:=h.num i L hi;exact⟨B,d,hv,hw.keep hb⟩
theorem sA.grow {n:Nat}{v':Value}{L:List Rat}{B:ze}{d:Nat}(h:sA w a v Ls vs)(hx:zR w B L.length d L)
  (ho:w'.ownsRow a 41 1 v' n (vs++[.slice B L.length d])) (hn:n=Ls.length+1) (hg:w.grownBy w' v.ownBlock) (hs:wm w' v'):sA w' a v' (Ls++[L]) (vs++[.slice B L.length d]):=by
 have hl:=h.len;refine⟨by rw [qB,YA,<-hn];exact ho,hs,λi M hi=>?_⟩;by_cases hlt:i<Ls.length
 ·rw [QG hlt] at hi;obtain⟨C,e,hv,hw⟩:=h.num i M hi;exact⟨C,e,by rw [QG zb];exact hv,Vm hw hg h.sl⟩
 ·rw [qT zb] at hi;have c:i=Ls.length:=by
   have:=(List.getElem?_eq_some_iff.1 hi).1;simp at this;omega
  subst c;obtain rfl:L=M:=by
   rw [XH] at hi;injection hi
  exact⟨B,d,by rw [qT zb,hl,XH];rfl,Vm hx hg h.sl⟩
theorem io:(prog.info? 41).map (λi=>(i.zero,i.size,i.bytes))=some (some (.slice none 0 0),1,24):=ye
theorem iq.get (h:iq w A n Ls){i m:Nat}(hi:i<n)(hm:(Ls.getD i []).length=m):∃(ad:Addr) (B:ze) (d:Nat),A=some ad/\w.cell? (ad.add i)=some (.slice B m d)/\zR w B m d (Ls.getD i []):=by
 have hl:=h.len;obtain⟨ad,B,d,e,_,h1,h2⟩:=h.num i _ (wy (d:=[]) zb);rw [hm] at h1 h2;exact⟨ad,B,d,e,h1,h2⟩
abbrev sK:=Nat->ze×Nat×Nat×List (Int×Int)
theorem RB:tG ub where
 below h hb:=h.below hb
 offg h hk hcs ho:=⟨⟨h.1.1,Xj h.1.2 hk hcs ho⟩,Xj h.2 hk hcs ho⟩
abbrev fG (w:World)(A:ze)(n c:Nat)(xs:List Rat):Prop:=z8 ub w A n c xs
theorem fG.keep {w':World}(h:fG w A n c xs)(hb:Below w.heap.size w w'):fG w' A n c xs:=z8.below RB h hb
theorem fG.get {wr:World}(h:fG w A n c xs)(hb:Below w.heap.size w wr){i:Nat}(hi:i<n):∃(ad:Addr) (b:Bool) (B:ze) (m d:Nat) (F:ze) (u v:Nat),A=some ad/\ad.block<w.heap.size/\wr.cell? (ad.add (i*3))=some (.bool b)/\wr.cell? ⟨(ad.add (i*3)).block,(ad.add (i*3)).off+1,none⟩=some (.slice B m d)/\wr.cell? ⟨(ad.add (i*3)).block,(ad.add (i*3)).off+2,none⟩=some (.slice F u v)/\ub wr (xs.getD i 0) b B m d F u v:=by
 obtain⟨ad,b,B,m,d,F,u,v,e,h0,h1,h2,h3,h4⟩:=h.at_ hi 0;exact⟨ad,b,B,m,d,F,u,v,e,h0,zv hb h1,zv hb (fA h2),zv hb (Un h3),h4.below hb⟩
