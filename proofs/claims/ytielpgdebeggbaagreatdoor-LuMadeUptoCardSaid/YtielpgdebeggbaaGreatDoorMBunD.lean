/- What this claim leans on. -/
import Derived.Test.YtielpgdebeggbaaGreatDoorMBunW
import Derived.Below
import Derived.Deep.AppendLies
import Derived.Deep.Draws
import Derived.Deep.QuietTactic
import Derived.Laws.MakeOwn
import Derived.Laws.OwnMore
import Derived.Laws.Rows
import Derived.Maps.AppendAt
import Derived.OwnWalk
import Derived.RegionTactic
set_option linter.unusedVariables false
set_option linter.unusedSimpArgs false
namespace Go.Proofs.YtielpgdebeggbaaGreatDoor
open Go Go.RowKit
set_option maxHeartbeats 16000000
variable {e:Ending}{K:IntKind}{g:List Nat}{xs:List Value}{B a b c j k m n x y:Nat}{v:Value}{w w' w1:World}{A:ze}
theorem y4 (a:Addr)(n:Nat):(a.add n).block=a.block:=by unfold Addr.add;split<;>rfl
theorem kk (a:Addr)(i j:Nat):(a.add i).add j=a.add (i+j):=by
 unfold Addr.add;by_cases hi:i=0<;>by_cases hj:j=0<;>simp [hi,hj,xC]
def zN (w:World)(B size:Nat)(A:ze)(n:Nat)(xs:List Value):Prop:=
 xs.length=n*size/\(0<n->∃ad,A=some ad/\ad.block<B/\∀j u,xs[j]?=some u->w.cell? (ad.add j)=some u)
section
variable {w w':World}{B B' size n:Nat}{A:ze}{xs:List Value}
theorem zN.none_:zN w B size A 0 []:=⟨zF,λh=>absurd h za⟩
theorem zN.at_ {k:Nat}(h:zN w B 1 A n xs)(hk:k<n):∃ad u,A=some ad/\ad.block<B/\xs[k]?=some u/\w.cell? (ad.add k)=some u:=by
 obtain⟨ad,e,hb,hc⟩:=h.2 za;have hl:k<xs.length:=by have:=h.1;omega
 exact⟨ad,xs[k],e,hb,qY hl,hc k _ (qY hl)⟩
theorem zN.keep (h:zN w B size A n xs)(hk:∀p:Addr,p.block<B->w'.cell? p=w.cell? p):zN w' B size A n xs:=
 ⟨h.1,λhn=>by
  obtain⟨ad,e,hb,hc⟩:=h.2 hn;exact⟨ad,e,hb,λj u hu=>(hk _ (by rw [y4];exact hb)).trans (hc j u hu)⟩⟩
theorem zN.more (h:zN w B size A n xs)(hB:B<=B'):zN w B' size A n xs:=
 ⟨h.1,λhn=>by
  obtain⟨ad,e,hb,hc⟩:=h.2 hn;exact⟨ad,e,za,hc⟩⟩
theorem zN.below (h:zN w B size A n xs)(hb:Below B w w'):zN w' B size A n xs:=h.keep λ_ hp=>hb.cell hp
theorem zN.drew (h:zN w B size A n xs):zN w.drew B size A n xs:=h
theorem zN.drewN (h:zN w B size A n xs)(k:Nat):zN (w.drewN k) B size A n xs:=h
theorem zN.alloc (h:zN w B size A n xs)(hB:B<=w.heap.size)(o:Obj):zN (w.alloc o) B size A n xs:=h.keep λp hp=>World.cell?_alloc_lt w o p za
theorem zN.setCell (h:zN w B size A n xs){p:Addr}(hB:B<=p.block)(u:Value):zN (w.setCell p u) B size A n xs:=
 h.keep λq hq=>yR w p q u (λe=>by subst e;omega)
theorem zN.grown (h:zN w B size A n xs){row:Option Nat}(hg:w.grownBy w' row)(hB:B<=w.heap.size)(hr:∀g,row=some g->B<=g):zN w' B size A n xs:=
 h.keep λp hp=>World.cell?_of_block (hg.block p.block za (λe=>by have:=hr _ e.symm;omega))
theorem zN.cut (h:zN w B size A n xs){k cap:Nat}(hk:k<=n)(hc:n<=cap):
  zN w B size (if cap=k then A else A.map (·.add (k*size))) (n - k) (xs.drop (k*size)):=by
 refine⟨by rw [QE,h.1,Nat.sub_mul],λhn=>?_⟩;obtain⟨ad,rfl,hb,a⟩:=h.2 za;rw [if_neg za];refine⟨ad.add (k*size),rfl,by rw [y4];exact hb,λj u hu=>?_⟩;rw [kk];exact a _ u (by rw [<-hu,yE])
theorem zN.of_own {e:TypeId}(h:w.ownsRow a e size (.slice A n c) n xs):zN w w.heap.size size A n xs:=by
 refine⟨h.1,λhn=>?_⟩;obtain⟨g,cap,hv,_,d⟩:=h.form hn;have hA:A=some ⟨g,0,none⟩:=by injection hv
 subst hA;exact⟨_,rfl,d,h.cells (g:=g) rfl⟩
end
def zh (w:World)(g:Nat)(t:TypeId)(cs:Array Value):Prop:=w.heap[g]?=some (.cells cs t (0,0))
section
variable {w w':World}{g:Nat}{t:TypeId}{cs:Array Value}
theorem zh.lt (h:zh w g t cs):g<w.heap.size:=by
 rcases xG g w.heap.size with hlt|hge
 ·exact hlt
 ·unfold zh at h;rw [Array.getElem?_eq_none hge] at h;cases h
theorem zh.cell (h:zh w g t cs)(i:Nat):w.cell? ⟨g,i,none⟩=cs[i]?:=cell_of_row w g i cs t (0,0) h
theorem zh.frozen (h:zh w g t cs)(i:Nat):w.frozen? ⟨g,i,none⟩=false:=by
 unfold zh at h;simp [World.frozen?,h]
theorem zh.new (w:World)(t:TypeId)(cs:Array Value):zh (w.alloc (.cells cs t)) w.heap.size t cs:=heap_alloc_new w _
theorem zh.drew (h:zh w g t cs):zh w.drew g t cs:=h
theorem zh.drewN (h:zh w g t cs)(n:Nat):zh (w.drewN n) g t cs:=h
theorem zh.alloc (h:zh w g t cs)(o:Obj):zh (w.alloc o) g t cs:=(Below.heap_alloc w o g h.lt).trans h
theorem zh.set_ (h:zh w g t cs)(i:Nat)(u:Value):zh (w.setCell ⟨g,i,none⟩ u) g t (cs.setIfInBounds i u):=by
 unfold zh at h⊢;simp [World.setCell,Array.getElem?_modify,h]
theorem zh.far (h:zh w g t cs){p:Addr}(hp:g≠p.block)(u:Value):zh (w.setCell p u) g t cs:=(Below.heap_setCell w p u g hp).trans h
theorem zh.below (h:zh w g t cs)(hb:Below B w w')(hg:g<B):zh w' g t cs:=(hb.block g hg).trans h
theorem zh.grown {row:Option Nat}(h:zh w g t cs)(hb:w.grownBy w' row)(hg:some g≠row):zh w' g t cs:=(hb.block g h.lt hg).trans h
theorem zh.ne_ {g':Nat}{t':TypeId}{a:Array Value}(h:zh w g t cs)(h':zh w g' t' a)(d:t≠t'):g≠g':=by
 rintro rfl;unfold zh at h h';rw [h] at h';injection h' with h';injection h' with _ ht;exact d ht
end
section
variable {P:Program}(w:World)
theorem T7 (a:Nat)(t ty e:TypeId)(i:TypeInfo)(h:Nat)(ht:P.underlying t=some (.slice e))(hi:P.info? e=some i)
  (v:Value) (n:Nat) (xs:List Value) (d:w.ownsRow a e h v n xs) (c:Nat):(Builtin.append_ #[t,t] ty #[v,.slice none 0 c]).run P w=.ok v w:=by
 rcases d.2 with⟨rfl,rfl⟩|⟨g,cap,cur,rfl,_,_,hnc,_⟩
 ·simp [Builtin.append_,run_underlying ht,sizeOf,typeInfo,hi,Builtin.lenOf,Builtin.firstCells]
 ·simp [Builtin.append_,run_underlying ht,sizeOf,typeInfo,hi,Builtin.lenOf,Builtin.firstCells,hnc,storeCells]
theorem Sd (d:Nat)(t ty e:TypeId)(i:TypeInfo)(z:Value)(size bytes:Nat)(ht:P.underlying t=some (.slice e))(hi:P.info? e=some i)(hz:i.zero=some z)
  (y:i.size=size) (E:i.bytes=bytes) (F:z.cells.size=size) (hsz:0<size)
  (v:Value) (n:Nat) (xs:List Value) (g:w.ownsRow d e size v n xs)
  (B:Nat) (A:ze) (m c:Nat) (a:List Value) (hr:zN w B size A m a) (h1:∀u ∈ a,u.oneCell'=true)
  (D:n+m<=maxLen) (k:(n+m)*bytes<=140737488355328) (s:d<=w.heap.size):
  ∃ v' w',(Builtin.append_ #[t,t] ty #[v,.slice A m c]).run P w = .ok v' w' ∧ w'.ownsRow d e size v' (n + m) (xs ++ a) ∧ w.grownBy w' v.ownBlock ∧
   (v'.ownBlock=v.ownBlock\/v'.ownBlock=some w.heap.size):=by
 rcases A with _|ad
 ·have hm:m=0:=by
   rcases QW m with h0|h0
   ·exact h0
   ·obtain⟨ad,h,_⟩:=hr.2 h0;cases h
  subst hm;have hn:a=[]:=QV (by simpa using hr.1);subst hn;exact⟨v,w,T7 w d t ty e i size ht hi v n xs g c,by simpa using g,World.grownBy.refl w _,.inl rfl⟩
 ·have o:∀j u,a[j]?=some u->w.cell? (ad.add j)=some u:=by
   intro j u hu;rcases QW m with h0|h0
   ·subst h0;have hn:a=[]:=QV (by simpa using hr.1);subst hn;simp at hu
   ·obtain⟨ad',h,_,hc⟩:=hr.2 h0;injection h with h;subst h;exact hc j u hu
  obtain⟨v',w',C,h2,h3,_,h5⟩:=run_append_own_at (P:=P) w d t ty e i z size bytes ht hi hz y E F hsz v n xs g ad m c a hr.1 o h1 D k s;exact⟨v',w',C,h2,h3,h5⟩
theorem Wj {o:Oper}{a:Act}{K:Act->World->Prop}{Q:Exit->Act->World->Prop}(s x:Operand)(t:TypeId)
  (ho:o.op=.call {callee:=.builtin .append,args:=#[s,x],argTypes:=#[t,t]})
  (d:Nat) (e:TypeId) (i:TypeInfo) (z:Value) (size bytes:Nat) (ht:P.underlying t=some (.slice e)) (hi:P.info? e=some i) (hz:i.zero=some z)
  (y:i.size=size) (F:i.bytes=bytes) (G:z.cells.size=size) (hsz:0<size)
  (v:Value) (n:Nat) (xs:List Value) (hs:a.eval s=v) (C:w.ownsRow d e size v n xs)
  (B:Nat) (A:ze) (m c:Nat) (g:List Value) (hx:a.eval x=.slice A m c) (hr:zN w B size A m g) (h1:∀u ∈ g,u.oneCell'=true)
  (E:n+m<=maxLen) (j:(n+m)*bytes<=140737488355328) (k:d<=w.heap.size)
  (h:∀v' w',w'.ownsRow d e size v' (n+m) (xs++g)->w.grownBy w' v.ownBlock->(v'.ownBlock=v.ownBlock\/v'.ownBlock=some w.heap.size)->K (a.put o.dst v') w'):o.wp P a w K Q:=by
 obtain⟨v',w',D,h2,h3,h4⟩:=Sd (P:=P) w d t o.type e i z size bytes ht hi hz y F G hsz v n xs C B A m c g hr h1 E j k;unfold Oper.wp execOp;simp only [ho,resolve,invoke,builtin,Sem.run_bind,Sem.run_pure,Result.andThen_ok,yM,yQ,List.map_nil,hs,hx,D];exact h v' w' h2 h3 h4
theorem Xq {D:Array Oper}{rest:List Oper}{o:Oper}{a:Act}{Q:Exit->Act->World->Prop}(G:o.guard=none)(s x:Operand)(t:TypeId)
  (ho:o.op=.call {callee:=.builtin .append,args:=#[s,x],argTypes:=#[t,t]})
  (d:Nat) (e:TypeId) (i:TypeInfo) (z:Value) (size bytes:Nat) (ht:P.underlying t=some (.slice e)) (hi:P.info? e=some i) (hz:i.zero=some z)
  (y:i.size=size) (F:i.bytes=bytes) (H:z.cells.size=size) (hsz:0<size)
  (v:Value) (n:Nat) (xs:List Value) (hs:a.eval s=v) (C:w.ownsRow d e size v n xs)
  (B:Nat) (A:ze) (m c:Nat) (g:List Value) (hx:a.eval x=.slice A m c) (hr:zN w B size A m g) (h1:∀u ∈ g,u.oneCell'=true)
  (E:n+m<=maxLen) (j:(n+m)*bytes<=140737488355328) (k:d<=w.heap.size)
  (h:∀v' w',w'.ownsRow d e size v' (n+m) (xs++g)->w.grownBy w' v.ownBlock->(v'.ownBlock=v.ownBlock\/v'.ownBlock=some w.heap.size)->wpList P D Q rest (a.put o.dst v') w'):wpList P D Q (o::rest) a w:=
 wpList_plain G λ_ hK=>Wj w s x t ho d e i z size bytes ht hi hz y F H hsz v n xs hs C B A m c g hx hr h1 E j k λv' w' h2 h3 h4=>hK _ _ (h v' w' h2 h3 h4)
theorem Xt {D:Array Oper}{o:Oper}{a:Act}{K:Act->World->Prop}{Q:Exit->Act->World->Prop}{E:Prop}(H:o.guard=none)(s x:Operand)(t:TypeId)
  (ho:o.op=.call {callee:=.builtin .append,args:=#[s,x],argTypes:=#[t,t]})
  (d:Nat) (e:TypeId) (i:TypeInfo) (z:Value) (size bytes:Nat) (ht:P.underlying t=some (.slice e)) (hi:P.info? e=some i) (hz:i.zero=some z)
  (y:i.size=size) (G:i.bytes=bytes) (I:z.cells.size=size) (hsz:0<size)
  (v:Value) (n:Nat) (xs:List Value) (hs:a.eval s=v) (C:w.ownsRow d e size v n xs)
  (B:Nat) (A:ze) (m c:Nat) (g:List Value) (hx:a.eval x=.slice A m c) (hr:zN w B size A m g) (h1:∀u ∈ g,u.oneCell'=true)
  (F:n+m<=maxLen) (j:(n+m)*bytes<=140737488355328) (k:d<=w.heap.size)
  (h:∀v' w',w'.ownsRow d e size v' (n+m) (xs++g)->w.grownBy w' v.ownBlock->(v'.ownBlock=v.ownBlock\/v'.ownBlock=some w.heap.size)->K (a.put o.dst v') w'):
  if Region.wanted o (yielded D a.tmps)=true then Oper.wp P o a w K Q else E:=by
 have hw:Region.wanted o (yielded D a.tmps)=true:=by simp [Region.wanted,H]
 rw [if_pos hw];exact Wj w s x t ho d e i z size bytes ht hi hz y G I hsz v n xs hs C B A m c g hx hr h1 F j k h
end
theorem sS (w:World)(u:Value)(t:TypeId):∀(j:Nat) (u':Value),[u][j]?=some u'->(w.alloc (.cells #[u] t)).cell? ((⟨w.heap.size,0,none⟩:Addr).add j)=some u':=by
 intro j u' hj
 match j,hj with
 |0,hj=>simp at hj;subst hj;simp [Addr.add]
theorem pQ (k:IntKind)(z:Int):∀u ∈ [Value.int k z],u.oneCell'=true:=by intro u hu;simp at hu;subst hu;rfl
theorem lh {a b:Int}(h:a=b):Ending.returned (.int .i64 a)=.returned (.int .i64 b):=by rw [h]
theorem iH {P:Program}{f:FuncId}{args:Array Value}
  (h:Calls P f args (w.drewN n) λe w'=>e=.returned v/\w.drewN n=w'):Calls P f args (w.drewN n) λe a=>e=.returned v/\∃m,a=w.drewN m:=
 h.mono λ_ _ ⟨he,hm⟩=>⟨he,n,hm.symm⟩
def re (w:World)(n:Nat)(xs:List Value)(e:Ending)(w':World):Prop:=
 ∃(A:ze) (c:Nat),e=.returned (.slice A n c)/\zN w' w'.heap.size 1 A n xs/\n<=c/\(c<=9223372036854775807/\∀ad,A=some ad->w.heap.size<=ad.block)/\Below w.heap.size w w'
theorem pL {e:TypeId}(h:w.ownsRow a e 1 v n xs):
  ∃(A:ze) (c:Nat),v=.slice A n c/\zN w w.heap.size 1 A n xs/\n<=c/\c<=9223372036854775807/\∀ad,A=some ad->a<=ad.block:=by
 have h2:=h.2;rcases h2 with⟨rfl,rfl⟩|⟨g,cap,cur,rfl,hbg,_,hnc,hcm,_⟩
 ·exact⟨none,0,rfl,zN.of_own h,qX _,za,by intro ad e;cases e⟩
 ·exact⟨some ⟨g,0,none⟩,cap,rfl,zN.of_own h,hnc,by unfold maxLen at hcm;omega,by intro ad e;cases e;exact hbg⟩
theorem SM {t:TypeId}(h:w'.ownsRow w.heap.size t 1 v n xs)(hb:Below w.heap.size w w'):re w n xs (.returned v) w':=by
 obtain⟨A,c,rfl,hr,h1,h2,h3⟩:=pL h;exact⟨A,c,rfl,hr,h1,⟨h2,h3⟩,hb⟩
theorem re.from_ (h:re w1 n xs e w')(hb:Below w.heap.size w w1):re w n xs e w':=by
 obtain⟨A,c,rfl,hr,h1,⟨h2,h3⟩,h4⟩:=h;exact⟨A,c,rfl,hr,h1,⟨h2,λad e=>qH hb.size (h3 ad e)⟩,hb.trans (h4.mono hb.size)⟩
theorem Zq {a:World}(h:Below B a w)(n:Nat):Below B a (w.drewN n):=⟨h.os,h.tape,h.output,h.size,h.block⟩
theorem oN {P:Program}(t e:TypeId)(i:TypeInfo)(z:Value)(ht:P.underlying t=some (.slice e))(hi:P.info? e=some i)(hz:i.zero=some z)
  (kl kc:IntKind) (n c:Nat) (hnc:n<=c) (hbytes:i.bytes*c<=281474976710656) (h63:c<=9223372036854775807) (w:World):
  (Instr.makeSlice t (.int kl (n:Int)) (.int kc (c:Int))).run P w=.ok (.slice (some ⟨w.heap.size,0,none⟩) n c) (w.alloc (.cells (madeCells z.cells (c*i.size)) e)):=by
 have hb:(i.bytes:Int)*(c:Int)<=281474976710656:=by
  have h:((i.bytes*c:Nat):Int)<=281474976710656:=za;rwa [QT] at h
 have hr:=run_make (P:=P) w t e i z ht hi hz kl kc n c za za hb za;simp only [Int.toNat_natCast] at hr;exact hr
def dv (b:Nat):List Nat->Nat
 |[]=>0
 |d::l=>d+b*dv b l
def zK (b:Nat)(l:List Nat):Prop:=∀d ∈ l,d<b
def kK (b:Nat):Nat->Nat->List Nat
 |0,_=>[]
 |f+1,x=>if x=0 then [] else x%b::kK b f (x / b)
def dg (b x:Nat):List Nat:=kK b x x
theorem WJ:∀(b f g x:Nat),2<=b->x<=f->x<=g->kK b f x=kK b g x
 |b,0,g,x,_,h,_=>by
   have:x=0:=za;subst this;cases g<;>simp [kK]
 |b,f+1,0,x,_,_,h=>by
   have:x=0:=za;subst this;simp [kK]
 |b,f+1,g+1,x,hb,h1,h2=>by
   unfold kK
   split
   ·rfl
   ·rename_i hx
    have:x / b<x:=Nat.div_lt_self za za;rw [WJ b f g (x / b) hb za za]
theorem kF (b:Nat):dg b 0=[]:=rfl
theorem gu (hb:2<=b)(hx:x≠0):dg b x=x%b::dg b (x / b):=by
 obtain⟨y,rfl⟩:∃y,x=y+1:=⟨x - 1,za⟩;unfold dg;rw [kK,if_neg hx];have:(y+1) / b<y+1:=Nat.div_lt_self za za;rw [WJ b y ((y+1) / b) _ hb za (qX _)]
theorem Y9 (hb:2<=b){P:Nat->Prop}(h0:P 0)(hs:∀x,x≠0->P (x / b)->P x)(x:Nat):P x:=by
 induction x using Nat.strongRecOn with
 |ind x ih=>
   by_cases hx:x=0
   ·subst hx;exact h0
   ·exact hs x hx (ih _ (Nat.div_lt_self za za))
theorem uz {b:Nat}(hb:2<=b)(x:Nat):dv b (dg b x)=x:=by
 refine Y9 hb (P:=λx=>dv b (dg b x)=x) rfl (λx hx ih=>?_) x;rw [gu hb hx,dv,ih];exact XP x b
theorem tw {b:Nat}(hb:2<=b)(x:Nat):zK b (dg b x):=by
 refine Y9 hb (P:=λx=>zK b (dg b x)) (by intro d hd;simp [kF] at hd) (λx hx ih=>?_) x;rw [gu hb hx];intro d hd;rcases List.mem_cons.1 hd with rfl|hd
 ·exact xD _ za
 ·exact ih d hd
theorem tU (b:Nat):∀(l m:List Nat),dv b (l++m)=dv b l+b^l.length*dv b m
 |[],m=>by simp [dv]
 |d::l,m=>by
   rw [YP,dv,dv,tU b l m,xK,QD,QQ,xC,QK (b^l.length) b,qL]
theorem zK.append {l m:List Nat}(hl:zK b l)(hm:zK b m):zK b (l++m):=by
 intro d hd;rcases List.mem_append.1 hd with h|h
 ·exact hl d h
 ·exact hm d h
theorem zK.take {l:List Nat}(hl:zK b l)(k:Nat):zK b (l.take k):=λd hd=>hl d (XX hd)
theorem zK.drop {l:List Nat}(hl:zK b l)(k:Nat):zK b (l.drop k):=λd hd=>hl d (xP hd)
theorem zK.getD {l:List Nat}(hl:zK b l)(hb:0<b)(k:Nat):l.getD k 0<b:=by
 by_cases hk:k<l.length
 ·exact hl _ (by rw [qQ,qY hk];exact xU hk)
 ·rw [qQ,qN za];exact hb
theorem zK.zeros (hb:0<b)(n:Nat):zK b (List.replicate n 0):=by
 intro d hd;rw [List.eq_of_mem_replicate hd];exact hb
theorem iU (b:Nat):∀n,dv b (List.replicate n 0)=0
 |0=>rfl
 |n+1=>by rw [List.replicate_succ,dv,iU b n];simp
theorem vv {b:Nat}:∀{l:List Nat},zK b l->dv b l<b^l.length
 |[],_=>by simp [dv]
 |d::l,h=>by
   have h1:=h d zF;have h2:=vv (l:=l) (λe he=>h e (by simp [he]));rw [dv,xK,QD,QK (b^l.length) b];have:b*(dv b l+1)<=b*b^l.length:=QN b h2;rw [QQ] at this;omega
theorem vR (b:Nat)(l:List Nat)(d:Nat):dv b (l++[d])=dv b l+b^l.length*d:=by rw [tU];simp [dv]
theorem uJ (b:Nat)(l:List Nat)(k:Nat):dv b (l.take (k+1))=dv b (l.take k)+b^k*l.getD k 0:=by
 by_cases h:k<l.length
 ·rw [QG h,vR,qE,xV za];simp [List.getD,qY h]
 ·rw [qV za,qV za,qQ,qN za];simp
theorem Ui (b:Nat)(l:List Nat)(k:Nat)(hk:k<=l.length):dv b l=dv b (l.take k)+b^k*dv b (l.drop k):=by
 have h:=tU b (l.take k) (l.drop k);rw [YA,qE,xV hk] at h;exact h
theorem Th (hb:0<b){l:List Nat}(h:zK b l)(k:Nat):dv b (l.take k)=dv b l%b^k:=by
 by_cases hk:k<=l.length
 ·have h2:=vv (h.take k);rw [qE,xV hk] at h2;rw [Ui b l k hk,XI];exact(qC h2).symm
 ·rw [qV za];have h2:=vv h;exact(qC (qJ h2 (qA hb za))).symm
theorem gw {b:Nat}(hb:0<b){l:List Nat}(h:zK b l)(k:Nat):dv b (l.drop k)=dv b l / b^k:=by
 by_cases hk:k<=l.length
 ·have h2:=vv (h.take k);rw [qE,xV hk] at h2;rw [Ui b l k hk,Nat.add_mul_div_left _ _ (yZ hb),xM h2,xH]
 ·rw [xE za];have h2:=vv h;exact(xM (qJ h2 (qA hb za))).symm
theorem ik (hb:0<b){l:List Nat}(h:zK b l)(k:Nat):l.getD k 0=dv b l / b^k%b:=by
 have h1:=gw hb h k;rw [<-h1];by_cases hk:k<l.length
 ·rw [yS hk,dv,XI,qQ,qY hk];exact(qC (h _ (xU hk))).symm
 ·rw [xE za,qQ,qN za];simp [dv]
def nM (l:List Nat):Prop:=l≠[]->l.getD (l.length - 1) 0≠0
theorem nM.nil:nM []:=λh=>absurd rfl h
theorem nM.tail {d:Nat}{l:List Nat}(h:nM (d::l)):nM l:=by
 intro hl;have h2:=h zF;have hp:0<l.length:=List.length_pos_iff.2 hl;rw [xK,show l.length+1 - 1=(l.length - 1)+1 from by omega] at h2;simpa using h2
theorem jk (hb:2<=b)(x:Nat):nM (dg b x):=by
 refine Y9 hb (P:=λx=>nM (dg b x)) nM.nil (λx hx ih=>?_) x;rw [gu hb hx];intro _;by_cases h:dg b (x / b)=[]
 ·rw [h];have h0:=uz hb (x / b);rw [h] at h0;have a:x<b:=by
   rcases xG x b with h2|h2
   ·exact h2
   ·have:=Nat.div_pos h2 za;simp [dv] at h0;omega
  simp [qC a];exact hx
 ·have hp:0<(dg b (x / b)).length:=List.length_pos_iff.2 h;rw [xK,show(dg b (x / b)).length+1 - 1=((dg b (x / b)).length - 1)+1 from by omega];simpa using ih h
theorem qe {b:Nat}(hb:2<=b):∀{l:List Nat},zK b l->nM l->l=dg b (dv b l)
 |[],_,_=>rfl
 |d::l,h,hn=>by
   have h1:=h d zF;have h0:zK b l:=λe he=>h e (by simp [he]);have e:=qe hb h0 hn.tail;have g:dv b (d::l)≠0:=by
    rw [dv];intro hz;have hd:d=0:=za;have hl:b*dv b l=0:=za;have a:dv b l=0:=by
     rcases Nat.mul_eq_zero.1 hl with h|h
     ·omega
     ·exact h
    rw [a,kF] at e;subst e;subst hd;exact hn zF zF
   rw [gu hb g,dv,XI,qC h1,Nat.add_mul_div_left _ _ za,xM h1,xH,<-e]
theorem tN {b:Nat}(hb:2<=b)(x:Nat)(hx:x≠0):1<=(dg b x).length/\b^((dg b x).length - 1)<=x:=by
 have a:dg b x≠[]:=by rw [gu hb hx];simp
 have hp:=List.length_pos_iff.2 a;refine⟨hp,?_⟩;have hn:=jk hb x a;rw [ik za (tw hb x),uz hb] at hn;rcases xG x (b^((dg b x).length - 1)) with h|h
 ·rw [xM h] at hn;simp at hn
 ·exact h
theorem ww {b:Nat}(hb:2<=b)(x:Nat):x<b^(dg b x).length:=by
 have:=vv (tw hb x);rwa [uz hb] at this
theorem lI {b:Nat}(hb:2<=b)(x n:Nat)(h:x<b^n):(dg b x).length<=n:=by
 by_cases hx:x=0
 ·subst hx;simp [kF]
 ·have h2:=tN hb x hx;have:b^((dg b x).length - 1)<b^n:=QI h2.2 h;have:=(Nat.pow_lt_pow_iff_right za).1 this;omega
theorem lH {b:Nat}(hb:2<=b){x y:Nat}(h:x<=y):(dg b x).length<=(dg b y).length:=lI hb _ _ (QI h (ww hb y))
theorem Pz (b:Nat){l:List Nat}{n:Nat}(hn:n<l.length)(h:l.getD n 0=0):dv b (l.take (n+1))=dv b (l.take n):=by
 have _:=hn;rw [uJ,h];simp
theorem mf (hb:2<=b){l:List Nat}{n:Nat}(h:zK b l)(hn:n<=l.length)(hv:dv b (l.take n)=dv b l)(hz:n=0\/l.getD (n - 1) 0≠0):l.take n=dg b (dv b l):=by
 rw [<-hv];refine qe hb (h.take n) ?_;intro a;rw [qE,xV hn];rcases hz with rfl|hz
 ·simp at a
 ·by_cases h0:n=0
  ·subst h0;simp at a
  ·rw [qQ,xZ,if_pos za,<-qQ];exact hz
theorem gJ (b x j:Nat):x / b^j=b*(x / b^(j+1))+x / b^j%b:=by
 rw [QD,<-XN];exact(yY _ _).symm
theorem kU {b:Nat}(h:x / b^(j+1)=y / b^(j+1))(hd:x / b^j%b=y / b^j%b):x / b^j=y / b^j:=by
 rw [gJ b x j,gJ b y j,h,hd]
theorem Y8 {b:Nat}(h:x / b^(j+1)=y / b^(j+1))(hd:x / b^j%b<y / b^j%b):x<y:=by
 have h1:=gJ b x j;have h2:=gJ b y j;rw [h] at h1;rcases xG x y with hl|hl
 ·exact hl
 ·have:=Nat.div_le_div_right (c:=b^j) hl;omega
theorem dF {b:Nat}(hb:2<=b){x y:Nat}(h:(dg b x).length<(dg b y).length):x<y:=by
 rcases xG x y with hl|hl
 ·exact hl
 ·have:=lH hb hl;omega
theorem Yj (i:Nat):(65536:Nat)^(4*i)=18446744073709551616^i:=by rw [jK]
theorem ue (b x k:Nat):x%b^(k+1)=x%b^k+b^k*(x / b^k%b):=by rw [QD,Nat.mod_mul]
structure ii (x j:Nat)(L:List Nat):Prop where
 len:L.length=j
 dgs:zK 18446744073709551616 L
 val:dv 18446744073709551616 L=x%18446744073709551616^j
theorem ii.start (x:Nat):ii x 0 []:=⟨rfl,by intro d hd;simp at hd,by simp [dv,XZ]⟩
theorem ii.step {L:List Nat}(h:ii x j L):ii x (j+1) (L++[x / 65536^(4*j)%65536^4]):=by
 refine⟨by simp [h.len],h.dgs.append (by intro d hd;simp at hd;subst hd;exact xD _ zf),?_⟩;rw [vR,h.val,h.len,Yj,show(65536:Nat)^4=18446744073709551616 from by decide,<-ue]
theorem ii.done {L:List Nat}(h:ii x j L)(hlo:j=0\/4*(j - 1)<(dg 65536 x).length)(g:(dg 65536 x).length<=4*j):L=dg 18446744073709551616 x:=by
 have hx:x<18446744073709551616^j:=by
  rw [<-Yj];exact qJ (ww zf x) (qA zf g)
 have hv:dv 18446744073709551616 L=x:=by rw [h.val,qC hx]
 conv=>rhs;rw [<-hv]
 refine qe zf h.dgs ?_;intro k;have hj:j≠0:=by
  rintro rfl;exact k (List.length_eq_zero_iff.1 h.len)
 obtain⟨i,rfl⟩:∃i,j=i+1:=⟨j - 1,za⟩;rw [ik zf h.dgs,hv,h.len];have a:4*i<(dg 65536 x).length:=za;have m:x≠0:=by rintro rfl;simp [kF] at a
 have d:18446744073709551616^i<=x:=by
  rw [<-Yj];exact qH (qA zf za) (tN zf x m).2
 have h1:0<x / 18446744073709551616^(i+1 - 1):=Nat.div_pos (by simpa using d) (yZ zf);have h2:x / 18446744073709551616^(i+1 - 1)<18446744073709551616:=by
  rw [Nat.add_sub_cancel];refine(QA (yZ zf)).2 ?_;rw [QK,<-QD];exact hx
 rw [qC h2];omega
def zH (k:IntKind)(l:List Nat):List Value:=l.map λd:Nat=>Value.int k (d:Int)
theorem vd (k:IntKind)(l:List Nat):(zH k l).length=l.length:=by simp [zH]
theorem cG (k:IntKind)(l m:List Nat):zH k (l++m)=zH k l++zH k m:=by simp [zH]
theorem Oc (k:IntKind)(l:List Nat)(n:Nat):(zH k l).take n=zH k (l.take n):=by simp [zH]
theorem Ob (k:IntKind)(l:List Nat)(n:Nat):(zH k l).drop n=zH k (l.drop n):=by simp [zH]
theorem bQ (k:IntKind)(l:List Nat):∀u ∈ zH k l,u.oneCell'=true:=by
 intro u hu;obtain⟨d,_,rfl⟩:=List.mem_map.1 hu;rfl
theorem sy {l:List Nat}(hr:zN w B 1 A n (zH K l)){k:Nat}(hk:k<n):∃ad:Addr,A=some ad/\ad.block<B/\w.cell? (ad.add k)=some (.int K (l.getD k 0:Nat)):=by
 have hlen:l.length=n:=by have:=hr.1;rw [vd] at this;omega
 obtain⟨ad,u,e,hb,hu,hc⟩:=hr.at_ hk;refine⟨ad,e,hb,hc.trans ?_⟩;rw [qQ,qY za];simp only [zH,qW,qY (show k<l.length by omega),Option.map_some,Option.some.injEq] at hu;rw [<-hu];rfl
theorem zN.len_ {l:List Nat}(hr:zN w B 1 A n (zH K l)):l.length=n:=by
 have:=hr.1;rw [vd] at this;omega
theorem zN.take_ (hr:zN w B 1 A n xs)(hk:k<=n):zN w B 1 A k (xs.take k):=by
 have h1:=hr.1;refine⟨by rw [qE];omega,λh=>?_⟩;obtain⟨ad,e,hb,hc⟩:=hr.2 za;refine⟨ad,e,hb,λj u hu=>hc j u ?_⟩;rw [xZ] at hu
 split at hu
 ·exact hu
 ·cases hu
def nB (w:World)(x:Nat)(A:ze)(n c:Nat):Prop:=
 zN w w.heap.size 1 A n (zH .i64 (dg 65536 x))/\n<=c/\c<=9223372036854775807
def eR (w:World)(x:Nat):Ending->World->Prop:=re w (dg 65536 x).length (zH .i64 (dg 65536 x))
theorem nB.len (h:nB w x A n c):n=(dg 65536 x).length:=h.1.len_.symm
theorem nB.below (h:nB w x A n c)(hb:Below w.heap.size w w'):nB w' x A n c:=
 ⟨(h.1.below hb).more hb.size,h.2⟩
theorem eR.elim (h:eR w x e w'):∃(A:ze) (n c:Nat),e=.returned (.slice A n c)/\nB w' x A n c/\Below w.heap.size w w':=by
 obtain⟨A,c,rfl,hr,h1,⟨h2,_⟩,h3⟩:=h;exact⟨A,_,c,rfl,⟨hr,h1,h2⟩,h3⟩
theorem eR.from_ (h:eR w1 x e w')(hb:Below w.heap.size w w1):eR w x e w':=re.from_ h hb
def wf (x y:Nat):Int:=if x<y then -1 else if x=y then 0 else 1
theorem kE (h:x<y):wf x y= -1:=if_pos h
theorem ij (h:y<x):wf x y=1:=by unfold wf;rw [if_neg za,if_neg za]
theorem gn {x y:Nat}(h:x=y):wf x y=0:=by unfold wf;rw [if_neg za,if_pos h]
def Y6 (w:World)(x:Nat):Ending->World->Prop:=re w (dg 18446744073709551616 x).length (zH .u64 (dg 18446744073709551616 x))
structure iw (x y k:Nat)(out:List Nat)(c:Nat):Prop where
 len:out.length=k
 dgs:zK 65536 out
 carry:c<=1
 sum:x%65536^k+y%65536^k=dv 65536 out+65536^k*c
theorem iw.start (x y:Nat):iw x y 0 [] 0:=⟨rfl,by intro d hd;simp at hd,za,by simp [dv,XZ]⟩
theorem iw.step {s:Nat}{a:List Nat}(h:iw x y k a c)(hs:s=x / 65536^k%65536+y / 65536^k%65536+c):iw x y (k+1) (a++[s%65536]) (s / 65536):=by
 have h1:x / 65536^k%65536<65536:=xD _ zf;have h2:y / 65536^k%65536<65536:=xD _ zf;have h3:=h.carry;refine⟨by simp [h.len],h.dgs.append (by intro d hd;simp at hd;subst hd;omega),za,?_⟩;have e:=h.sum;rw [ue 65536 x k,ue 65536 y k,vR,h.len,QD,qL,xC (dv 65536 a),<-QQ,XP,hs,QQ,QQ];omega
theorem iw.done {a:List Nat}(h:iw x y k a 0)(hx:(dg 65536 x).length<=k)(hy:(dg 65536 y).length<=k):dv 65536 a=x+y:=by
 have e:=h.sum;have h1:x<65536^k:=qJ (ww zf x) (qA zf hx);have h2:y<65536^k:=qJ (ww zf y) (qA zf hy);rw [qC h1,qC h2] at e;omega
structure it (x y k:Nat)(out:List Nat)(c:Nat):Prop where
 len:out.length=k
 dgs:zK 65536 out
 lack:c<=1
 sum:dv 65536 out+y%65536^k=x%65536^k+65536^k*c
theorem it.start (x y:Nat):it x y 0 [] 0:=⟨rfl,by intro d hd;simp at hd,za,by simp [dv,XZ]⟩
theorem it.step {d c':Nat}{a:List Nat}(h:it x y k a c)(hd:d<65536)(hc:c'<=1)(hs:d+y / 65536^k%65536+c=x / 65536^k%65536+65536*c'):it x y (k+1) (a++[d]) c':=by
 refine⟨by simp [h.len],h.dgs.append (by intro e he;simp at he;subst he;exact hd),hc,?_⟩;have e:=h.sum;have e2:65536^k*d+65536^k*(y / 65536^k%65536)+65536^k*c=65536^k*(x / 65536^k%65536)+65536^k*(65536*c'):=by
  rw [<-QQ,<-QQ,hs,QQ]
 rw [ue 65536 x k,ue 65536 y k,vR,h.len,QD,qL (65536^k) 65536 c'];omega
theorem it.done {a:List Nat}(h:it x y k a c)(d:y<=x)(hx:(dg 65536 x).length<=k):dv 65536 a=x - y:=by
 have e:=h.sum;have h1:x<65536^k:=qJ (ww zf x) (qA zf hx);have h3:=vv h.dgs;rw [h.len] at h3;rw [qC h1,qC (QI d h1)] at e;have h4:=h.lack;have:c=0\/c=1:=za;rcases this with rfl|rfl<;>omega
structure ig (x m a k:Nat)(out:List Nat)(c:Nat):Prop where
 len:out.length=k
 dgs:zK 65536 out
 carry:c<65536
 sum:dv 65536 out+65536^k*c=x%65536^k*m+a
theorem ig.start (x m a:Nat)(ha:a<65536):ig x m a 0 [] a:=⟨rfl,by intro d hd;simp at hd,ha,by simp [dv,XZ]⟩
theorem ig.step {s:Nat}(h:ig x m a k g c)(hm:m<65536)(hs:s=x / 65536^k%65536*m+c):ig x m a (k+1) (g++[s%65536]) (s / 65536):=by
 have h1:x / 65536^k%65536<65536:=xD _ zf;have h2:x / 65536^k%65536*m<=65535*65535:=Nat.mul_le_mul za za;have h3:=h.carry;refine⟨by simp [h.len],h.dgs.append (by intro d hd;simp at hd;subst hd;omega),za,?_⟩;have e:=h.sum;have e2:65536^k*(s%65536)+65536^k*(65536*(s / 65536))=65536^k*s:=by rw [<-QQ,XP]
 have e3:65536^k*s=65536^k*(x / 65536^k%65536)*m+65536^k*c:=by rw [hs,QQ,qL]
 rw [vR,h.len,QD,qL (65536^k) 65536,<-QD,ue 65536 x k,QB];omega
theorem ig.done (h:ig x m a k g c)(hx:(dg 65536 x).length<=k):dv 65536 (g++[c%65536,c / 65536])=x*m+a/\zK 65536 (g++[c%65536,c / 65536]):=by
 have e:=h.sum;have h1:x<65536^k:=qJ (ww zf x) (qA zf hx);rw [qC h1] at e;have h3:=h.carry;refine⟨?_,h.dgs.append (by intro d hd;simp at hd;rcases hd with rfl|rfl<;>omega)⟩;rw [tU,h.len];simp only [dv,yT,XH];rw [XP];exact e
structure im (x m n k:Nat)(out:List Nat)(left:Nat):Prop where
 len:out.length=n - k
 dgs:zK 65536 out
 rest:left<m
 sum:dv 65536 out*m+left=x / 65536^k
theorem im.start (hm:0<m)(hn:(dg 65536 x).length<=n):im x m n n [] 0:=by
 have h1:x<65536^n:=qJ (ww zf x) (qA zf hn);exact⟨zF,by intro d hd;simp at hd,hm,by simp [dv,xM h1]⟩
theorem im.step {s:Nat}(h:im x m n (k+1) g a)(hk:k+1<=n)(hs:s=a*65536+x / 65536^k%65536):im x m n k (s / m::g) (s%m):=by
 have h1:x / 65536^k%65536<65536:=xD _ zf;have h3:=h.rest;have hm:0<m:=za;refine⟨by simp [h.len];omega,?_,xD _ hm,?_⟩
 ·intro d hd;rcases List.mem_cons.1 hd with rfl|hd
  ·refine(QA hm).2 ?_;have:(a+1)*65536<=m*65536:=qS _ h3;omega
  ·exact h.dgs d hd
 ·have e:=h.sum;have e2:=gJ 65536 x k;have e3:=yY s m;rw [dv,QB,e2,<-e,QQ,qL 65536,QK (s / m) m];omega
theorem im.done {d:List Nat}(h:im x m n 0 d a):dv 65536 d=x / m/\a=x%m:=by
 have e:=h.sum;have h3:=h.rest;rw [yG,Nat.div_one] at e;have hm:0<m:=za;refine⟨?_,?_⟩
 ·rw [<-e,YN,Nat.add_mul_div_right _ _ hm,xM h3,xH]
 ·rw [<-e,YN,Nat.add_mul_mod_self_right,qC h3]
theorem drop_set (cs:Array Value)(k:Nat)(u:Value)(h:k<cs.size):(cs.setIfInBounds k u).toList.drop k=u::cs.toList.drop (k+1):=by
 rw [QO,yS (by simpa using h)];simp [List.drop_set]
def nE (w:World)(x:Nat)(v:Value):Prop:=
 ∃(A:ze) (n c:Nat),v=.agg #[.slice A n c]/\zN w w.heap.size 1 A n (zH .u64 (dg 18446744073709551616 x))/\n<=c/\c<=9223372036854775807
theorem nE.below (h:nE w x v)(hb:Below w.heap.size w w'):nE w' x v:=by
 obtain⟨A,n,c,e,hr,h1,h2⟩:=h;exact⟨A,n,c,e,(hr.below hb).more hb.size,h1,h2⟩
theorem nE.drewN (h:nE w x v)(k:Nat):nE (w.drewN k) x v:=h
def Y0 (w:World)(x:Nat)(e:Ending)(w':World):Prop:=∃v,e=.returned v/\nE w' x v/\Below w.heap.size w w'
theorem Y0.from_ (h:Y0 w1 x e w')(hb:Below w.heap.size w w1):Y0 w x e w':=by
 obtain⟨v,he,hn,h3⟩:=h;exact⟨v,he,hn,hb.trans (h3.mono hb.size)⟩
