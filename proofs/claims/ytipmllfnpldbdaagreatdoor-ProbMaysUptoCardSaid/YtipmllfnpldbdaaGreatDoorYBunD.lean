/- What this claim leans on. -/
import Derived.Test.YtipmllfnpldbdaaGreatDoorYBunW
import Derived.Below
import Derived.Deep.AppendLies
import Derived.Deep.Draws
import Derived.Deep.QuietTactic
import Derived.Laws.MakeOwn
import Derived.Laws.OwnMore
import Derived.Laws.Rows
import Derived.Maps.AppendAt
import Derived.OwnWalk
import Derived.RegionTactic
set_option linter.unusedVariables false
set_option linter.unusedSimpArgs false
namespace Go.Proofs.YtipmllfnpldbdaaGreatDoor
open Go Go.RowKit
set_option maxHeartbeats 16000000
variable {e:Ending}{K:IntKind}{a g:List Nat}{xs:List Value}{B b c j left m x y:Nat}{v:Value}{w w' w1:World}{A:zf}
theorem y9 (a:Addr)(n:Nat):(a.add n).block=a.block:=by unfold Addr.add;split<;>rfl
theorem kL (a:Addr)(i j:Nat):(a.add i).add j=a.add (i+j):=by
 unfold Addr.add;by_cases hi:i=0<;>by_cases hj:j=0<;>simp [hi,hj,xR]
def zE (w:World)(B size:Nat)(A:zf)(n:Nat)(xs:List Value):Prop:=
 xs.length=n*size/\(0<n->∃ad,A=some ad/\ad.block<B/\∀j u,xs[j]?=some u->w.cell? (ad.add j)=some u)
section
variable {w w':World}{B B' size n:Nat}{A:zf}{xs:List Value}
theorem zE.none_:zE w B size A 0 []:=⟨zD,λh=>absurd h za⟩
theorem zE.at_ {k:Nat}(h:zE w B 1 A n xs)(hk:k<n):∃ad u,A=some ad/\ad.block<B/\xs[k]?=some u/\w.cell? (ad.add k)=some u:=by
 obtain⟨ad,e,hb,hc⟩:=h.2 za;have hl:k<xs.length:=by have:=h.1;omega
 exact⟨ad,xs[k],e,hb,qZ hl,hc k _ (qZ hl)⟩
theorem zE.keep (h:zE w B size A n xs)(hk:∀p:Addr,p.block<B->w'.cell? p=w.cell? p):zE w' B size A n xs:=
 ⟨h.1,λhn=>by
  obtain⟨ad,e,hb,hc⟩:=h.2 hn;exact⟨ad,e,hb,λj u hu=>(hk _ (by rw [y9];exact hb)).trans (hc j u hu)⟩⟩
theorem zE.more (h:zE w B size A n xs)(hB:B<=B'):zE w B' size A n xs:=
 ⟨h.1,λhn=>by
  obtain⟨ad,e,hb,hc⟩:=h.2 hn;exact⟨ad,e,za,hc⟩⟩
theorem zE.below (h:zE w B size A n xs)(hb:Below B w w'):zE w' B size A n xs:=h.keep λ_ hp=>hb.cell hp
theorem zE.drew (h:zE w B size A n xs):zE w.drew B size A n xs:=h
theorem zE.drewN (h:zE w B size A n xs)(k:Nat):zE (w.drewN k) B size A n xs:=h
theorem zE.alloc (h:zE w B size A n xs)(hB:B<=w.heap.size)(o:Obj):zE (w.alloc o) B size A n xs:=h.keep λp hp=>World.cell?_alloc_lt w o p za
theorem zE.setCell (h:zE w B size A n xs){p:Addr}(hB:B<=p.block)(u:Value):zE (w.setCell p u) B size A n xs:=
 h.keep λq hq=>yL w p q u (λe=>by subst e;omega)
theorem zE.grown (h:zE w B size A n xs){row:Option Nat}(hg:w.grownBy w' row)(hB:B<=w.heap.size)(hr:∀g,row=some g->B<=g):zE w' B size A n xs:=
 h.keep λp hp=>World.cell?_of_block (hg.block p.block za (λe=>by have:=hr _ e.symm;omega))
theorem zE.cut (h:zE w B size A n xs){k d:Nat}(hk:k<=n)(hc:n<=d):
  zE w B size (if d=k then A else A.map (·.add (k*size))) (n - k) (xs.drop (k*size)):=by
 refine⟨by rw [YX,h.1,Nat.sub_mul],λhn=>?_⟩;obtain⟨ad,rfl,hb,a⟩:=h.2 za;rw [if_neg za];refine⟨ad.add (k*size),rfl,by rw [y9];exact hb,λj u hu=>?_⟩;rw [kL];exact a _ u (by rw [<-hu,YY])
theorem zE.of_own {a:Nat}{e:TypeId}(h:w.ownsRow a e size (.slice A n c) n xs):zE w w.heap.size size A n xs:=by
 refine⟨h.1,λhn=>?_⟩;obtain⟨g,cap,hv,_,d⟩:=h.form hn;have hA:A=some ⟨g,0,none⟩:=by injection hv
 subst hA;exact⟨_,rfl,d,h.cells (g:=g) rfl⟩
end
def zi (w:World)(g:Nat)(t:TypeId)(cs:Array Value):Prop:=w.heap[g]?=some (.cells cs t (0,0))
section
variable {w w':World}{g:Nat}{t:TypeId}{cs:Array Value}
theorem zi.lt (h:zi w g t cs):g<w.heap.size:=by
 rcases xC g w.heap.size with hlt|hge
 ·exact hlt
 ·unfold zi at h;rw [Array.getElem?_eq_none hge] at h;cases h
theorem zi.cell (h:zi w g t cs)(i:Nat):w.cell? ⟨g,i,none⟩=cs[i]?:=cell_of_row w g i cs t (0,0) h
theorem zi.frozen (h:zi w g t cs)(i:Nat):w.frozen? ⟨g,i,none⟩=false:=by
 unfold zi at h;simp [World.frozen?,h]
theorem zi.new (w:World)(t:TypeId)(cs:Array Value):zi (w.alloc (.cells cs t)) w.heap.size t cs:=heap_alloc_new w _
theorem zi.drew (h:zi w g t cs):zi w.drew g t cs:=h
theorem zi.drewN (h:zi w g t cs)(n:Nat):zi (w.drewN n) g t cs:=h
theorem zi.alloc (h:zi w g t cs)(o:Obj):zi (w.alloc o) g t cs:=(Below.heap_alloc w o g h.lt).trans h
theorem zi.set_ (h:zi w g t cs)(i:Nat)(u:Value):zi (w.setCell ⟨g,i,none⟩ u) g t (cs.setIfInBounds i u):=by
 unfold zi at h⊢;simp [World.setCell,Array.getElem?_modify,h]
theorem zi.far (h:zi w g t cs){p:Addr}(hp:g≠p.block)(u:Value):zi (w.setCell p u) g t cs:=(Below.heap_setCell w p u g hp).trans h
theorem zi.below (h:zi w g t cs)(hb:Below B w w')(hg:g<B):zi w' g t cs:=(hb.block g hg).trans h
theorem zi.grown {row:Option Nat}(h:zi w g t cs)(hb:w.grownBy w' row)(hg:some g≠row):zi w' g t cs:=(hb.block g h.lt hg).trans h
theorem zi.ne_ {g':Nat}{t':TypeId}{a:Array Value}(h:zi w g t cs)(h':zi w g' t' a)(d:t≠t'):g≠g':=by
 rintro rfl;unfold zi at h h';rw [h] at h';injection h' with h';injection h' with _ ht;exact d ht
end
section
variable {P:Program}(w:World)
theorem Zz (a:Nat)(t ty e:TypeId)(i:TypeInfo)(h:Nat)(ht:P.underlying t=some (.slice e))(hi:P.info? e=some i)
  (v:Value) (n:Nat) (xs:List Value) (d:w.ownsRow a e h v n xs) (c:Nat):(Builtin.append_ #[t,t] ty #[v,.slice none 0 c]).run P w=.ok v w:=by
 rcases d.2 with⟨rfl,rfl⟩|⟨g,cap,cur,rfl,_,_,hnc,_⟩
 ·simp [Builtin.append_,run_underlying ht,sizeOf,typeInfo,hi,Builtin.lenOf,Builtin.firstCells]
 ·simp [Builtin.append_,run_underlying ht,sizeOf,typeInfo,hi,Builtin.lenOf,Builtin.firstCells,hnc,storeCells]
theorem ZQ (d:Nat)(t ty e:TypeId)(i:TypeInfo)(z:Value)(size bytes:Nat)(ht:P.underlying t=some (.slice e))(hi:P.info? e=some i)(hz:i.zero=some z)
  (D:i.size=size) (G:i.bytes=bytes) (H:z.cells.size=size) (hsz:0<size)
  (v:Value) (n:Nat) (xs:List Value) (g:w.ownsRow d e size v n xs)
  (B:Nat) (A:zf) (m c:Nat) (a:List Value) (hr:zE w B size A m a) (h1:∀u ∈ a,u.oneCell'=true)
  (F:n+m<=maxLen) (x:(n+m)*bytes<=140737488355328) (C:d<=w.heap.size):
  ∃ v' w',(Builtin.append_ #[t,t] ty #[v,.slice A m c]).run P w = .ok v' w' ∧ w'.ownsRow d e size v' (n + m) (xs ++ a) ∧ w.grownBy w' v.ownBlock ∧
   (v'.ownBlock=v.ownBlock\/v'.ownBlock=some w.heap.size):=by
 rcases A with _|ad
 ·have hm:m=0:=by
   rcases QS m with h0|h0
   ·exact h0
   ·obtain⟨ad,h,_⟩:=hr.2 h0;cases h
  subst hm;have hn:a=[]:=qM (by simpa using hr.1);subst hn;exact⟨v,w,Zz w d t ty e i size ht hi v n xs g c,by simpa using g,World.grownBy.refl w _,.inl rfl⟩
 ·have y:∀j u,a[j]?=some u->w.cell? (ad.add j)=some u:=by
   intro j u hu;rcases QS m with h0|h0
   ·subst h0;have hn:a=[]:=qM (by simpa using hr.1);subst hn;simp at hu
   ·obtain⟨ad',h,_,hc⟩:=hr.2 h0;injection h with h;subst h;exact hc j u hu
  obtain⟨v',w',E,h2,h3,_,h5⟩:=run_append_own_at (P:=P) w d t ty e i z size bytes ht hi hz D G H hsz v n xs g ad m c a hr.1 y h1 F x C;exact⟨v',w',E,h2,h3,h5⟩
theorem fS {o:Oper}{a:Act}{K:Act->World->Prop}{Q:Exit->Act->World->Prop}(s x:Operand)(t:TypeId)
  (ho:o.op=.call {callee:=.builtin .append,args:=#[s,x],argTypes:=#[t,t]})
  (d:Nat) (e:TypeId) (i:TypeInfo) (z:Value) (size bytes:Nat) (ht:P.underlying t=some (.slice e)) (hi:P.info? e=some i) (hz:i.zero=some z)
  (C:i.size=size) (G:i.bytes=bytes) (H:z.cells.size=size) (hsz:0<size)
  (v:Value) (n:Nat) (xs:List Value) (hs:a.eval s=v) (D:w.ownsRow d e size v n xs)
  (B:Nat) (A:zf) (m c:Nat) (g:List Value) (hx:a.eval x=.slice A m c) (hr:zE w B size A m g) (h1:∀u ∈ g,u.oneCell'=true)
  (F:n+m<=maxLen) (j:(n+m)*bytes<=140737488355328) (y:d<=w.heap.size)
  (h:∀v' w',w'.ownsRow d e size v' (n+m) (xs++g)->w.grownBy w' v.ownBlock->(v'.ownBlock=v.ownBlock\/v'.ownBlock=some w.heap.size)->K (a.put o.dst v') w'):o.wp P a w K Q:=by
 obtain⟨v',w',E,h2,h3,h4⟩:=ZQ (P:=P) w d t o.type e i z size bytes ht hi hz C G H hsz v n xs D B A m c g hr h1 F j y;unfold Oper.wp execOp;simp only [ho,resolve,invoke,builtin,Sem.run_bind,Sem.run_pure,Result.andThen_ok,YR,YK,List.map_nil,hs,hx,E];exact h v' w' h2 h3 h4
theorem ZH {E:Array Oper}{rest:List Oper}{o:Oper}{a:Act}{Q:Exit->Act->World->Prop}(H:o.guard=none)(s x:Operand)(t:TypeId)
  (ho:o.op=.call {callee:=.builtin .append,args:=#[s,x],argTypes:=#[t,t]})
  (d:Nat) (e:TypeId) (i:TypeInfo) (z:Value) (size bytes:Nat) (ht:P.underlying t=some (.slice e)) (hi:P.info? e=some i) (hz:i.zero=some z)
  (C:i.size=size) (G:i.bytes=bytes) (I:z.cells.size=size) (hsz:0<size)
  (v:Value) (n:Nat) (xs:List Value) (hs:a.eval s=v) (D:w.ownsRow d e size v n xs)
  (B:Nat) (A:zf) (m c:Nat) (g:List Value) (hx:a.eval x=.slice A m c) (hr:zE w B size A m g) (h1:∀u ∈ g,u.oneCell'=true)
  (F:n+m<=maxLen) (j:(n+m)*bytes<=140737488355328) (y:d<=w.heap.size)
  (h:∀v' w',w'.ownsRow d e size v' (n+m) (xs++g)->w.grownBy w' v.ownBlock->(v'.ownBlock=v.ownBlock\/v'.ownBlock=some w.heap.size)->wpList P E Q rest (a.put o.dst v') w'):wpList P E Q (o::rest) a w:=
 wpList_plain H λ_ hK=>fS w s x t ho d e i z size bytes ht hi hz C G I hsz v n xs hs D B A m c g hx hr h1 F j y λv' w' h2 h3 h4=>hK _ _ (h v' w' h2 h3 h4)
theorem fF {F:Array Oper}{o:Oper}{a:Act}{K:Act->World->Prop}{Q:Exit->Act->World->Prop}{E:Prop}(I:o.guard=none)(s x:Operand)(t:TypeId)
  (ho:o.op=.call {callee:=.builtin .append,args:=#[s,x],argTypes:=#[t,t]})
  (d:Nat) (e:TypeId) (i:TypeInfo) (z:Value) (size bytes:Nat) (ht:P.underlying t=some (.slice e)) (hi:P.info? e=some i) (hz:i.zero=some z)
  (C:i.size=size) (H:i.bytes=bytes) (J:z.cells.size=size) (hsz:0<size)
  (v:Value) (n:Nat) (xs:List Value) (hs:a.eval s=v) (D:w.ownsRow d e size v n xs)
  (B:Nat) (A:zf) (m c:Nat) (g:List Value) (hx:a.eval x=.slice A m c) (hr:zE w B size A m g) (h1:∀u ∈ g,u.oneCell'=true)
  (G:n+m<=maxLen) (j:(n+m)*bytes<=140737488355328) (y:d<=w.heap.size)
  (h:∀v' w',w'.ownsRow d e size v' (n+m) (xs++g)->w.grownBy w' v.ownBlock->(v'.ownBlock=v.ownBlock\/v'.ownBlock=some w.heap.size)->K (a.put o.dst v') w'):
  if Region.wanted o (yielded F a.tmps)=true then Oper.wp P o a w K Q else E:=by
 have hw:Region.wanted o (yielded F a.tmps)=true:=by simp [Region.wanted,I]
 rw [if_pos hw];exact fS w s x t ho d e i z size bytes ht hi hz C H J hsz v n xs hs D B A m c g hx hr h1 G j y h
end
theorem pE {a b:Int}(h:a=b):Ending.returned (.int .i64 a)=.returned (.int .i64 b):=by rw [h]
theorem mD {P:Program}{f:FuncId}{args:Array Value}{n:Nat}
  (h:Calls P f args (w.drewN n) λe w'=>e=.returned v/\w.drewN n=w'):Calls P f args (w.drewN n) λe a=>e=.returned v/\∃m,a=w.drewN m:=
 h.mono λ_ _ ⟨he,hm⟩=>⟨he,n,hm.symm⟩
def uF (w:World)(n:Nat)(xs:List Value)(e:Ending)(w':World):Prop:=
 ∃(A:zf) (c:Nat),e=.returned (.slice A n c)/\zE w' w'.heap.size 1 A n xs/\n<=c/\(c<=9223372036854775807/\∀ad,A=some ad->w.heap.size<=ad.block)/\Below w.heap.size w w'
theorem sn {a n:Nat}{e:TypeId}(h:w.ownsRow a e 1 v n xs):
  ∃(A:zf) (c:Nat),v=.slice A n c/\zE w w.heap.size 1 A n xs/\n<=c/\c<=9223372036854775807/\∀ad,A=some ad->a<=ad.block:=by
 have h2:=h.2;rcases h2 with⟨rfl,rfl⟩|⟨g,cap,cur,rfl,hbg,_,hnc,hcm,_⟩
 ·exact⟨none,0,rfl,zE.of_own h,qX _,za,by intro ad e;cases e⟩
 ·exact⟨some ⟨g,0,none⟩,cap,rfl,zE.of_own h,hnc,by unfold maxLen at hcm;omega,by intro ad e;cases e;exact hbg⟩
theorem ZX {n:Nat}{t:TypeId}(h:w'.ownsRow w.heap.size t 1 v n xs)(hb:Below w.heap.size w w'):uF w n xs (.returned v) w':=by
 obtain⟨A,c,rfl,hr,h1,h2,h3⟩:=sn h;exact⟨A,c,rfl,hr,h1,⟨h2,h3⟩,hb⟩
theorem uF.from_ {n:Nat}(h:uF w1 n xs e w')(hb:Below w.heap.size w w1):uF w n xs e w':=by
 obtain⟨A,c,rfl,hr,h1,⟨h2,h3⟩,h4⟩:=h;exact⟨A,c,rfl,hr,h1,⟨h2,λad e=>qC hb.size (h3 ad e)⟩,hb.trans (h4.mono hb.size)⟩
theorem ie {a:World}(h:Below B a w)(n:Nat):Below B a (w.drewN n):=⟨h.os,h.tape,h.output,h.size,h.block⟩
theorem uv {P:Program}(t e:TypeId)(i:TypeInfo)(z:Value)(ht:P.underlying t=some (.slice e))(hi:P.info? e=some i)(hz:i.zero=some z)
  (kl kc:IntKind) (n c:Nat) (hnc:n<=c) (hbytes:i.bytes*c<=281474976710656) (h63:c<=9223372036854775807) (w:World):
  (Instr.makeSlice t (.int kl (n:Int)) (.int kc (c:Int))).run P w=.ok (.slice (some ⟨w.heap.size,0,none⟩) n c) (w.alloc (.cells (madeCells z.cells (c*i.size)) e)):=by
 have hb:(i.bytes:Int)*(c:Int)<=281474976710656:=by
  have h:((i.bytes*c:Nat):Int)<=281474976710656:=za;rwa [QV] at h
 have hr:=run_make (P:=P) w t e i z ht hi hz kl kc n c za za hb za;simp only [Int.toNat_natCast] at hr;exact hr
def dv (b:Nat):List Nat->Nat
 |[]=>0
 |d::l=>d+b*dv b l
def zC (b:Nat)(l:List Nat):Prop:=∀d ∈ l,d<b
def oM (b:Nat):Nat->Nat->List Nat
 |0,_=>[]
 |f+1,x=>if x=0 then [] else x%b::oM b f (x / b)
def dg (b x:Nat):List Nat:=oM b x x
theorem eu:∀(b f g x:Nat),2<=b->x<=f->x<=g->oM b f x=oM b g x
 |b,0,g,x,_,h,_=>by
   have:x=0:=za;subst this;cases g<;>simp [oM]
 |b,f+1,0,x,_,_,h=>by
   have:x=0:=za;subst this;simp [oM]
 |b,f+1,g+1,x,hb,h1,h2=>by
   unfold oM
   split
   ·rfl
   ·rename_i hx
    have:x / b<x:=Nat.div_lt_self za za;rw [eu b f g (x / b) hb za za]
theorem oK (b:Nat):dg b 0=[]:=rfl
theorem mO (hb:2<=b)(hx:x≠0):dg b x=x%b::dg b (x / b):=by
 obtain⟨y,rfl⟩:∃y,x=y+1:=⟨x - 1,za⟩;unfold dg;rw [oM,if_neg hx];have:(y+1) / b<y+1:=Nat.div_lt_self za za;rw [eu b y ((y+1) / b) _ hb za (qX _)]
theorem fi (hb:2<=b){P:Nat->Prop}(h0:P 0)(hs:∀x,x≠0->P (x / b)->P x)(x:Nat):P x:=by
 induction x using Nat.strongRecOn with
 |ind x ih=>
   by_cases hx:x=0
   ·subst hx;exact h0
   ·exact hs x hx (ih _ (Nat.div_lt_self za za))
theorem wV {b:Nat}(hb:2<=b)(x:Nat):dv b (dg b x)=x:=by
 refine fi hb (P:=λx=>dv b (dg b x)=x) rfl (λx hx ih=>?_) x;rw [mO hb hx,dv,ih];exact xA x b
theorem vp {b:Nat}(hb:2<=b)(x:Nat):zC b (dg b x):=by
 refine fi hb (P:=λx=>zC b (dg b x)) (by intro d hd;simp [oK] at hd) (λx hx ih=>?_) x;rw [mO hb hx];intro d hd;rcases List.mem_cons.1 hd with rfl|hd
 ·exact QI _ za
 ·exact ih d hd
theorem vJ (b:Nat):∀(l m:List Nat),dv b (l++m)=dv b l+b^l.length*dv b m
 |[],m=>by simp [dv]
 |d::l,m=>by
   rw [yZ,dv,dv,vJ b l m,xY,qN,qS,xR,qE (b^l.length) b,qU]
theorem zC.append {l m:List Nat}(hl:zC b l)(hm:zC b m):zC b (l++m):=by
 intro d hd;rcases List.mem_append.1 hd with h|h
 ·exact hl d h
 ·exact hm d h
theorem zC.take {l:List Nat}(hl:zC b l)(k:Nat):zC b (l.take k):=λd hd=>hl d (XK hd)
theorem zC.drop {l:List Nat}(hl:zC b l)(k:Nat):zC b (l.drop k):=λd hd=>hl d (YV hd)
theorem zC.getD {l:List Nat}(hl:zC b l)(hb:0<b)(k:Nat):l.getD k 0<b:=by
 by_cases hk:k<l.length
 ·exact hl _ (by rw [qQ,qZ hk];exact xM hk)
 ·rw [qQ,xP za];exact hb
theorem zC.zeros (hb:0<b)(n:Nat):zC b (List.replicate n 0):=by
 intro d hd;rw [List.eq_of_mem_replicate hd];exact hb
theorem mH (b:Nat):∀n,dv b (List.replicate n 0)=0
 |0=>rfl
 |n+1=>by rw [List.replicate_succ,dv,mH b n];simp
theorem wh {b:Nat}:∀{l:List Nat},zC b l->dv b l<b^l.length
 |[],_=>by simp [dv]
 |d::l,h=>by
   have h1:=h d zD;have h2:=wh (l:=l) (λe he=>h e (by simp [he]));rw [dv,xY,qN,qE (b^l.length) b];have:b*(dv b l+1)<=b*b^l.length:=QG b h2;rw [qS] at this;omega
theorem wB (b:Nat)(l:List Nat)(d:Nat):dv b (l++[d])=dv b l+b^l.length*d:=by rw [vJ];simp [dv]
theorem wZ (b:Nat)(l:List Nat)(k:Nat):dv b (l.take (k+1))=dv b (l.take k)+b^k*l.getD k 0:=by
 by_cases h:k<l.length
 ·rw [QJ h,wB,QY,QO za];simp [List.getD,qZ h]
 ·rw [qV za,qV za,qQ,xP za];simp
theorem cX (b:Nat)(l:List Nat)(k:Nat)(hk:k<=l.length):dv b l=dv b (l.take k)+b^k*dv b (l.drop k):=by
 have h:=vJ b (l.take k) (l.drop k);rw [YU,QY,QO hk] at h;exact h
theorem aY (hb:0<b){l:List Nat}(h:zC b l)(k:Nat):dv b (l.take k)=dv b l%b^k:=by
 by_cases hk:k<=l.length
 ·have h2:=wh (h.take k);rw [QY,QO hk] at h2;rw [cX b l k hk,XQ];exact(qP h2).symm
 ·rw [qV za];have h2:=wh h;exact(qP (qJ h2 (qL hb za))).symm
theorem mP {b:Nat}(hb:0<b){l:List Nat}(h:zC b l)(k:Nat):dv b (l.drop k)=dv b l / b^k:=by
 by_cases hk:k<=l.length
 ·have h2:=wh (h.take k);rw [QY,QO hk] at h2;rw [cX b l k hk,Nat.add_mul_div_left _ _ (XM hb),xJ h2,xG]
 ·rw [QM za];have h2:=wh h;exact(xJ (qJ h2 (qL hb za))).symm
theorem nU (hb:0<b){l:List Nat}(h:zC b l)(k:Nat):l.getD k 0=dv b l / b^k%b:=by
 have h1:=mP hb h k;rw [<-h1];by_cases hk:k<l.length
 ·rw [xS hk,dv,XQ,qQ,qZ hk];exact(qP (h _ (xM hk))).symm
 ·rw [QM za,qQ,xP za];simp [dv]
def rU (l:List Nat):Prop:=l≠[]->l.getD (l.length - 1) 0≠0
theorem rU.nil:rU []:=λh=>absurd rfl h
theorem rU.tail {d:Nat}{l:List Nat}(h:rU (d::l)):rU l:=by
 intro hl;have h2:=h zD;have hp:0<l.length:=List.length_pos_iff.2 hl;rw [xY,show l.length+1 - 1=(l.length - 1)+1 from by omega] at h2;simpa using h2
theorem nv (hb:2<=b)(x:Nat):rU (dg b x):=by
 refine fi hb (P:=λx=>rU (dg b x)) rU.nil (λx hx ih=>?_) x;rw [mO hb hx];intro _;by_cases h:dg b (x / b)=[]
 ·rw [h];have h0:=wV hb (x / b);rw [h] at h0;have a:x<b:=by
   rcases xC x b with h2|h2
   ·exact h2
   ·have:=Nat.div_pos h2 za;simp [dv] at h0;omega
  simp [qP a];exact hx
 ·have hp:0<(dg b (x / b)).length:=List.length_pos_iff.2 h;rw [xY,show(dg b (x / b)).length+1 - 1=((dg b (x / b)).length - 1)+1 from by omega];simpa using ih h
theorem tt {b:Nat}(hb:2<=b):∀{l:List Nat},zC b l->rU l->l=dg b (dv b l)
 |[],_,_=>rfl
 |d::l,h,hn=>by
   have h1:=h d zD;have h0:zC b l:=λe he=>h e (by simp [he]);have e:=tt hb h0 hn.tail;have g:dv b (d::l)≠0:=by
    rw [dv];intro hz;have hd:d=0:=za;have hl:b*dv b l=0:=za;have a:dv b l=0:=by
     rcases Nat.mul_eq_zero.1 hl with h|h
     ·omega
     ·exact h
    rw [a,oK] at e;subst e;subst hd;exact hn zD zD
   rw [mO hb g,dv,XQ,qP h1,Nat.add_mul_div_left _ _ za,xJ h1,xG,<-e]
theorem vH {b:Nat}(hb:2<=b)(x:Nat)(hx:x≠0):1<=(dg b x).length/\b^((dg b x).length - 1)<=x:=by
 have a:dg b x≠[]:=by rw [mO hb hx];simp
 have hp:=List.length_pos_iff.2 a;refine⟨hp,?_⟩;have hn:=nv hb x a;rw [nU za (vp hb x),wV hb] at hn;rcases xC x (b^((dg b x).length - 1)) with h|h
 ·rw [xJ h] at hn;simp at hn
 ·exact h
theorem yx {b:Nat}(hb:2<=b)(x:Nat):x<b^(dg b x).length:=by
 have:=wh (vp hb x);rwa [wV hb] at this
theorem pR {b:Nat}(hb:2<=b)(x n:Nat)(h:x<b^n):(dg b x).length<=n:=by
 by_cases hx:x=0
 ·subst hx;simp [oK]
 ·have h2:=vH hb x hx;have:b^((dg b x).length - 1)<b^n:=QA h2.2 h;have:=(Nat.pow_lt_pow_iff_right za).1 this;omega
theorem pT {b:Nat}(hb:2<=b){x y:Nat}(h:x<=y):(dg b x).length<=(dg b y).length:=pR hb _ _ (QA h (yx hb y))
theorem V4 (b:Nat){l:List Nat}{n:Nat}(hn:n<l.length)(h:l.getD n 0=0):dv b (l.take (n+1))=dv b (l.take n):=by
 have _:=hn;rw [wZ,h];simp
theorem qj (hb:2<=b){l:List Nat}{n:Nat}(h:zC b l)(hn:n<=l.length)(hv:dv b (l.take n)=dv b l)(hz:n=0\/l.getD (n - 1) 0≠0):l.take n=dg b (dv b l):=by
 rw [<-hv];refine tt hb (h.take n) ?_;intro a;rw [QY,QO hn];rcases hz with rfl|hz
 ·simp at a
 ·by_cases h0:n=0
  ·subst h0;simp at a
  ·rw [qQ,yV,if_pos za,<-qQ];exact hz
theorem mV (b x j:Nat):x / b^j=b*(x / b^(j+1))+x / b^j%b:=by
 rw [qN,<-xN];exact(XJ _ _).symm
theorem oV {b:Nat}(h:x / b^(j+1)=y / b^(j+1))(hd:x / b^j%b=y / b^j%b):x / b^j=y / b^j:=by
 rw [mV b x j,mV b y j,h,hd]
theorem fc {b:Nat}(h:x / b^(j+1)=y / b^(j+1))(hd:x / b^j%b<y / b^j%b):x<y:=by
 have h1:=mV b x j;have h2:=mV b y j;rw [h] at h1;rcases xC x y with hl|hl
 ·exact hl
 ·have:=Nat.div_le_div_right (c:=b^j) hl;omega
theorem kj {b:Nat}(hb:2<=b){x y:Nat}(h:(dg b x).length<(dg b y).length):x<y:=by
 rcases xC x y with hl|hl
 ·exact hl
 ·have:=pT hb hl;omega
theorem iJ (i:Nat):(65536:Nat)^(4*i)=18446744073709551616^i:=by rw [YG]
theorem wM (b x k:Nat):x%b^(k+1)=x%b^k+b^k*(x / b^k%b):=by rw [qN,Nat.mod_mul]
structure nS (x j:Nat)(L:List Nat):Prop where
 len:L.length=j
 dgs:zC 18446744073709551616 L
 val:dv 18446744073709551616 L=x%18446744073709551616^j
theorem nS.start (x:Nat):nS x 0 []:=⟨rfl,by intro d hd;simp at hd,by simp [dv,xD]⟩
theorem nS.step {L:List Nat}(h:nS x j L):nS x (j+1) (L++[x / 65536^(4*j)%65536^4]):=by
 refine⟨by simp [h.len],h.dgs.append (by intro d hd;simp at hd;subst hd;exact QI _ zh),?_⟩;rw [wB,h.val,h.len,iJ,show(65536:Nat)^4=18446744073709551616 from by decide,<-wM]
theorem nS.done {L:List Nat}(h:nS x j L)(hlo:j=0\/4*(j - 1)<(dg 65536 x).length)(g:(dg 65536 x).length<=4*j):L=dg 18446744073709551616 x:=by
 have hx:x<18446744073709551616^j:=by
  rw [<-iJ];exact qJ (yx zh x) (qL zh g)
 have hv:dv 18446744073709551616 L=x:=by rw [h.val,qP hx]
 conv=>rhs;rw [<-hv]
 refine tt zh h.dgs ?_;intro m;have hj:j≠0:=by
  rintro rfl;exact m (List.length_eq_zero_iff.1 h.len)
 obtain⟨i,rfl⟩:∃i,j=i+1:=⟨j - 1,za⟩;rw [nU zh h.dgs,hv,h.len];have a:4*i<(dg 65536 x).length:=za;have t:x≠0:=by rintro rfl;simp [oK] at a
 have d:18446744073709551616^i<=x:=by
  rw [<-iJ];exact qC (qL zh za) (vH zh x t).2
 have h1:0<x / 18446744073709551616^(i+1 - 1):=Nat.div_pos (by simpa using d) (XM zh);have h2:x / 18446744073709551616^(i+1 - 1)<18446744073709551616:=by
  rw [Nat.add_sub_cancel];refine(QU (XM zh)).2 ?_;rw [qE,<-qN];exact hx
 rw [qP h2];omega
def zw (k:IntKind)(l:List Nat):List Value:=l.map λd:Nat=>Value.int k (d:Int)
theorem xt (k:IntKind)(l:List Nat):(zw k l).length=l.length:=by simp [zw]
theorem kR (k:IntKind)(l m:List Nat):zw k (l++m)=zw k l++zw k m:=by simp [zw]
theorem Uu (k:IntKind)(l:List Nat)(n:Nat):(zw k l).take n=zw k (l.take n):=by simp [zw]
theorem Ut (k:IntKind)(l:List Nat)(n:Nat):(zw k l).drop n=zw k (l.drop n):=by simp [zw]
theorem js (k:IntKind)(l:List Nat):∀u ∈ zw k l,u.oneCell'=true:=by
 intro u hu;obtain⟨d,_,rfl⟩:=List.mem_map.1 hu;rfl
theorem ug {n:Nat}{l:List Nat}(hr:zE w B 1 A n (zw K l)){k:Nat}(hk:k<n):∃ad:Addr,A=some ad/\ad.block<B/\w.cell? (ad.add k)=some (.int K (l.getD k 0:Nat)):=by
 have hlen:l.length=n:=by have:=hr.1;rw [xt] at this;omega
 obtain⟨ad,u,e,hb,hu,hc⟩:=hr.at_ hk;refine⟨ad,e,hb,hc.trans ?_⟩;rw [qQ,qZ za];simp only [zw,QB,qZ (show k<l.length by omega),Option.map_some,Option.some.injEq] at hu;rw [<-hu];rfl
theorem zE.len_ {n:Nat}{l:List Nat}(hr:zE w B 1 A n (zw K l)):l.length=n:=by
 have:=hr.1;rw [xt] at this;omega
theorem zE.take_ {n k:Nat}(hr:zE w B 1 A n xs)(hk:k<=n):zE w B 1 A k (xs.take k):=by
 have h1:=hr.1;refine⟨by rw [QY];omega,λh=>?_⟩;obtain⟨ad,e,hb,hc⟩:=hr.2 za;refine⟨ad,e,hb,λj u hu=>hc j u ?_⟩;rw [yV] at hu
 split at hu
 ·exact hu
 ·cases hu
def rK (w:World)(x:Nat)(A:zf)(n c:Nat):Prop:=
 zE w w.heap.size 1 A n (zw .i64 (dg 65536 x))/\n<=c/\c<=9223372036854775807
def ke (w:World)(x:Nat):Ending->World->Prop:=uF w (dg 65536 x).length (zw .i64 (dg 65536 x))
theorem rK.len {n:Nat}(h:rK w x A n c):n=(dg 65536 x).length:=h.1.len_.symm
theorem rK.below {n:Nat}(h:rK w x A n c)(hb:Below w.heap.size w w'):rK w' x A n c:=
 ⟨(h.1.below hb).more hb.size,h.2⟩
theorem ke.elim (h:ke w x e w'):∃(A:zf) (n c:Nat),e=.returned (.slice A n c)/\rK w' x A n c/\Below w.heap.size w w':=by
 obtain⟨A,c,rfl,hr,h1,⟨h2,_⟩,h3⟩:=h;exact⟨A,_,c,rfl,⟨hr,h1,h2⟩,h3⟩
theorem ke.from_ (h:ke w1 x e w')(hb:Below w.heap.size w w1):ke w x e w':=uF.from_ h hb
def yt (x y:Nat):Int:=if x<y then -1 else if x=y then 0 else 1
theorem oJ (h:x<y):yt x y= -1:=if_pos h
theorem nT (h:y<x):yt x y=1:=by unfold yt;rw [if_neg za,if_neg za]
theorem mN {x y:Nat}(h:x=y):yt x y=0:=by unfold yt;rw [if_neg za,if_pos h]
def gX (w:World)(x:Nat):Ending->World->Prop:=uF w (dg 18446744073709551616 x).length (zw .u64 (dg 18446744073709551616 x))
structure mn (x y k:Nat)(out:List Nat)(c:Nat):Prop where
 len:out.length=k
 dgs:zC 65536 out
 carry:c<=1
 sum:x%65536^k+y%65536^k=dv 65536 out+65536^k*c
theorem mn.start (x y:Nat):mn x y 0 [] 0:=⟨rfl,by intro d hd;simp at hd,za,by simp [dv,xD]⟩
theorem mn.step {k s:Nat}(h:mn x y k a c)(hs:s=x / 65536^k%65536+y / 65536^k%65536+c):mn x y (k+1) (a++[s%65536]) (s / 65536):=by
 have h1:x / 65536^k%65536<65536:=QI _ zh;have h2:y / 65536^k%65536<65536:=QI _ zh;have h3:=h.carry;refine⟨by simp [h.len],h.dgs.append (by intro d hd;simp at hd;subst hd;omega),za,?_⟩;have e:=h.sum;rw [wM 65536 x k,wM 65536 y k,wB,h.len,qN,qU,xR (dv 65536 a),<-qS,xA,hs,qS,qS];omega
theorem mn.done {k:Nat}(h:mn x y k a 0)(hx:(dg 65536 x).length<=k)(hy:(dg 65536 y).length<=k):dv 65536 a=x+y:=by
 have e:=h.sum;have h1:x<65536^k:=qJ (yx zh x) (qL zh hx);have h2:y<65536^k:=qJ (yx zh y) (qL zh hy);rw [qP h1,qP h2] at e;omega
structure mp (x y k:Nat)(out:List Nat)(c:Nat):Prop where
 len:out.length=k
 dgs:zC 65536 out
 lack:c<=1
 sum:dv 65536 out+y%65536^k=x%65536^k+65536^k*c
theorem mp.start (x y:Nat):mp x y 0 [] 0:=⟨rfl,by intro d hd;simp at hd,za,by simp [dv,xD]⟩
theorem mp.step {k d c':Nat}(h:mp x y k a c)(hd:d<65536)(hc:c'<=1)(hs:d+y / 65536^k%65536+c=x / 65536^k%65536+65536*c'):mp x y (k+1) (a++[d]) c':=by
 refine⟨by simp [h.len],h.dgs.append (by intro e he;simp at he;subst he;exact hd),hc,?_⟩;have e:=h.sum;have e2:65536^k*d+65536^k*(y / 65536^k%65536)+65536^k*c=65536^k*(x / 65536^k%65536)+65536^k*(65536*c'):=by
  rw [<-qS,<-qS,hs,qS]
 rw [wM 65536 x k,wM 65536 y k,wB,h.len,qN,qU (65536^k) 65536 c'];omega
theorem mp.done {k:Nat}(h:mp x y k a c)(d:y<=x)(hx:(dg 65536 x).length<=k):dv 65536 a=x - y:=by
 have e:=h.sum;have h1:x<65536^k:=qJ (yx zh x) (qL zh hx);have h3:=wh h.dgs;rw [h.len] at h3;rw [qP h1,qP (QA d h1)] at e;have h4:=h.lack;have:c=0\/c=1:=za;rcases this with rfl|rfl<;>omega
structure nR (x m a k:Nat)(out:List Nat)(c:Nat):Prop where
 len:out.length=k
 dgs:zC 65536 out
 carry:c<65536
 sum:dv 65536 out+65536^k*c=x%65536^k*m+a
theorem nR.start (x m a:Nat)(ha:a<65536):nR x m a 0 [] a:=⟨rfl,by intro d hd;simp at hd,ha,by simp [dv,xD]⟩
theorem nR.step {a k s:Nat}(h:nR x m a k g c)(hm:m<65536)(hs:s=x / 65536^k%65536*m+c):nR x m a (k+1) (g++[s%65536]) (s / 65536):=by
 have h1:x / 65536^k%65536<65536:=QI _ zh;have h2:x / 65536^k%65536*m<=65535*65535:=Nat.mul_le_mul za za;have h3:=h.carry;refine⟨by simp [h.len],h.dgs.append (by intro d hd;simp at hd;subst hd;omega),za,?_⟩;have e:=h.sum;have e2:65536^k*(s%65536)+65536^k*(65536*(s / 65536))=65536^k*s:=by rw [<-qS,xA]
 have e3:65536^k*s=65536^k*(x / 65536^k%65536)*m+65536^k*c:=by rw [hs,qS,qU]
 rw [wB,h.len,qN,qU (65536^k) 65536,<-qN,wM 65536 x k,QH];omega
theorem nR.done {a k:Nat}(h:nR x m a k g c)(hx:(dg 65536 x).length<=k):dv 65536 (g++[c%65536,c / 65536])=x*m+a/\zC 65536 (g++[c%65536,c / 65536]):=by
 have e:=h.sum;have h1:x<65536^k:=qJ (yx zh x) (qL zh hx);rw [qP h1] at e;have h3:=h.carry;refine⟨?_,h.dgs.append (by intro d hd;simp at hd;rcases hd with rfl|rfl<;>omega)⟩;rw [vJ,h.len];simp only [dv,XC,xI];rw [xA];exact e
structure mh (x m n k:Nat)(out:List Nat)(left:Nat):Prop where
 len:out.length=n - k
 dgs:zC 65536 out
 rest:left<m
 sum:dv 65536 out*m+left=x / 65536^k
theorem mh.start {n:Nat}(hm:0<m)(hn:(dg 65536 x).length<=n):mh x m n n [] 0:=by
 have h1:x<65536^n:=qJ (yx zh x) (qL zh hn);exact⟨zD,by intro d hd;simp at hd,hm,by simp [dv,xJ h1]⟩
theorem mh.step {n k s:Nat}(h:mh x m n (k+1) a left)(hk:k+1<=n)(hs:s=left*65536+x / 65536^k%65536):mh x m n k (s / m::a) (s%m):=by
 have h1:x / 65536^k%65536<65536:=QI _ zh;have h3:=h.rest;have hm:0<m:=za;refine⟨by simp [h.len];omega,?_,QI _ hm,?_⟩
 ·intro d hd;rcases List.mem_cons.1 hd with rfl|hd
  ·refine(QU hm).2 ?_;have:(left+1)*65536<=m*65536:=QK _ h3;omega
  ·exact h.dgs d hd
 ·have e:=h.sum;have e2:=mV 65536 x k;have e3:=XJ s m;rw [dv,QH,e2,<-e,qS,qU 65536,qE (s / m) m];omega
theorem mh.done {n:Nat}(h:mh x m n 0 a left):dv 65536 a=x / m/\left=x%m:=by
 have e:=h.sum;have h3:=h.rest;rw [yX,Nat.div_one] at e;have hm:0<m:=za;refine⟨?_,?_⟩
 ·rw [<-e,yA,Nat.add_mul_div_right _ _ hm,xJ h3,xG]
 ·rw [<-e,yA,Nat.add_mul_mod_self_right,qP h3]
theorem drop_set (cs:Array Value)(k:Nat)(u:Value)(h:k<cs.size):(cs.setIfInBounds k u).toList.drop k=u::cs.toList.drop (k+1):=by
 rw [xV,xS (by simpa using h)];simp [List.drop_set]
def od (w:World)(x:Nat)(v:Value):Prop:=
 ∃(A:zf) (n c:Nat),v=.agg #[.slice A n c]/\zE w w.heap.size 1 A n (zw .u64 (dg 18446744073709551616 x))/\n<=c/\c<=9223372036854775807
theorem od.below (h:od w x v)(hb:Below w.heap.size w w'):od w' x v:=by
 obtain⟨A,n,c,e,hr,h1,h2⟩:=h;exact⟨A,n,c,e,(hr.below hb).more hb.size,h1,h2⟩
theorem od.drewN (h:od w x v)(k:Nat):od (w.drewN k) x v:=h
def gU (w:World)(x:Nat)(e:Ending)(w':World):Prop:=∃v,e=.returned v/\od w' x v/\Below w.heap.size w w'
theorem gU.from_ (h:gU w1 x e w')(hb:Below w.heap.size w w1):gU w x e w':=by
 obtain⟨v,he,hn,h3⟩:=h;exact⟨v,he,hn,hb.trans (h3.mono hb.size)⟩
