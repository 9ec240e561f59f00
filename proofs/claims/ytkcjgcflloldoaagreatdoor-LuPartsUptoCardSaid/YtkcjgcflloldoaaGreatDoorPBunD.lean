/- What this claim leans on. -/
import Derived.Test.YtkcjgcflloldoaaGreatDoorPBunW
import Derived.Below
import Derived.Deep.AppendLies
import Derived.Deep.Draws
import Derived.Deep.QuietTactic
import Derived.Laws.MakeOwn
import Derived.Laws.OwnMore
import Derived.Laws.Rows
import Derived.Maps.AppendAt
import Derived.OwnWalk
import Derived.RegionTactic
set_option linter.unusedVariables false
set_option linter.unusedSimpArgs false
namespace Go.Proofs.YtkcjgcflloldoaaGreatDoor
open Go Go.RowKit
set_option maxHeartbeats 16000000
variable {K:IntKind}{g:List Nat}{xs:List Value}{B a b c j k m n x y:Nat}{e:TypeId}{v:Value}{w w' w1:World}{A:ze}
theorem yw (a:Addr)(n:Nat):(a.add n).block=a.block:=by unfold Addr.add;split<;>rfl
theorem jb (a:Addr)(i j:Nat):(a.add i).add j=a.add (i+j):=by
 unfold Addr.add;by_cases hi:i=0<;>by_cases hj:j=0<;>simp [hi,hj,xH]
def zL (w:World)(B size:Nat)(A:ze)(n:Nat)(xs:List Value):Prop:=
 xs.length=n*size/\(0<n->∃ad,A=some ad/\ad.block<B/\∀j u,xs[j]?=some u->w.cell? (ad.add j)=some u)
section
variable {w w':World}{B B' size n:Nat}{A:ze}{xs:List Value}
theorem zL.none_:zL w B size A 0 []:=⟨zG,λh=>absurd h za⟩
theorem zL.at_ {k:Nat}(h:zL w B 1 A n xs)(hk:k<n):∃ad u,A=some ad/\ad.block<B/\xs[k]?=some u/\w.cell? (ad.add k)=some u:=by
 obtain⟨ad,e,hb,hc⟩:=h.2 za;have hl:k<xs.length:=by have:=h.1;omega
 exact⟨ad,xs[k],e,hb,qY hl,hc k _ (qY hl)⟩
theorem zL.keep (h:zL w B size A n xs)(hk:∀p:Addr,p.block<B->w'.cell? p=w.cell? p):zL w' B size A n xs:=
 ⟨h.1,λhn=>by
  obtain⟨ad,e,hb,hc⟩:=h.2 hn;exact⟨ad,e,hb,λj u hu=>(hk _ (by rw [yw];exact hb)).trans (hc j u hu)⟩⟩
theorem zL.more (h:zL w B size A n xs)(hB:B<=B'):zL w B' size A n xs:=
 ⟨h.1,λhn=>by
  obtain⟨ad,e,hb,hc⟩:=h.2 hn;exact⟨ad,e,za,hc⟩⟩
theorem zL.below (h:zL w B size A n xs)(hb:Below B w w'):zL w' B size A n xs:=h.keep λ_ hp=>hb.cell hp
theorem zL.drew (h:zL w B size A n xs):zL w.drew B size A n xs:=h
theorem zL.drewN (h:zL w B size A n xs)(k:Nat):zL (w.drewN k) B size A n xs:=h
theorem zL.alloc (h:zL w B size A n xs)(hB:B<=w.heap.size)(o:Obj):zL (w.alloc o) B size A n xs:=h.keep λp hp=>World.cell?_alloc_lt w o p za
theorem zL.setCell (h:zL w B size A n xs){p:Addr}(hB:B<=p.block)(u:Value):zL (w.setCell p u) B size A n xs:=
 h.keep λq hq=>yY w p q u (λe=>by subst e;omega)
theorem zL.grown (h:zL w B size A n xs){row:Option Nat}(hg:w.grownBy w' row)(hB:B<=w.heap.size)(hr:∀g,row=some g->B<=g):zL w' B size A n xs:=
 h.keep λp hp=>World.cell?_of_block (hg.block p.block za (λe=>by have:=hr _ e.symm;omega))
theorem zL.cut (h:zL w B size A n xs){k c:Nat}(hk:k<=n)(hc:n<=c):
  zL w B size (if c=k then A else A.map (·.add (k*size))) (n - k) (xs.drop (k*size)):=by
 refine⟨by rw [xK,h.1,Nat.sub_mul],λhn=>?_⟩;obtain⟨ad,rfl,hb,a⟩:=h.2 za;rw [if_neg za];refine⟨ad.add (k*size),rfl,by rw [yw];exact hb,λj u hu=>?_⟩;rw [jb];exact a _ u (by rw [<-hu,yW])
theorem zL.of_own (h:w.ownsRow a e size (.slice A n c) n xs):zL w w.heap.size size A n xs:=by
 refine⟨h.1,λhn=>?_⟩;obtain⟨g,cap,hv,_,d⟩:=h.form hn;have hA:A=some ⟨g,0,none⟩:=by injection hv
 subst hA;exact⟨_,rfl,d,h.cells (g:=g) rfl⟩
end
def zh (w:World)(g:Nat)(t:TypeId)(cs:Array Value):Prop:=w.heap[g]?=some (.cells cs t (0,0))
section
variable {w w':World}{g:Nat}{t:TypeId}{cs:Array Value}
theorem zh.lt (h:zh w g t cs):g<w.heap.size:=by
 rcases xW g w.heap.size with hlt|hge
 ·exact hlt
 ·unfold zh at h;rw [Array.getElem?_eq_none hge] at h;cases h
theorem zh.cell (h:zh w g t cs)(i:Nat):w.cell? ⟨g,i,none⟩=cs[i]?:=cell_of_row w g i cs t (0,0) h
theorem zh.frozen (h:zh w g t cs)(i:Nat):w.frozen? ⟨g,i,none⟩=false:=by
 unfold zh at h;simp [World.frozen?,h]
theorem zh.new (w:World)(t:TypeId)(cs:Array Value):zh (w.alloc (.cells cs t)) w.heap.size t cs:=heap_alloc_new w _
theorem zh.drew (h:zh w g t cs):zh w.drew g t cs:=h
theorem zh.drewN (h:zh w g t cs)(n:Nat):zh (w.drewN n) g t cs:=h
theorem zh.alloc (h:zh w g t cs)(o:Obj):zh (w.alloc o) g t cs:=(Below.heap_alloc w o g h.lt).trans h
theorem zh.set_ (h:zh w g t cs)(i:Nat)(u:Value):zh (w.setCell ⟨g,i,none⟩ u) g t (cs.setIfInBounds i u):=by
 unfold zh at h⊢;simp [World.setCell,Array.getElem?_modify,h]
theorem zh.far (h:zh w g t cs){p:Addr}(hp:g≠p.block)(u:Value):zh (w.setCell p u) g t cs:=(Below.heap_setCell w p u g hp).trans h
theorem zh.below (h:zh w g t cs)(hb:Below B w w')(hg:g<B):zh w' g t cs:=(hb.block g hg).trans h
theorem zh.grown {row:Option Nat}(h:zh w g t cs)(hb:w.grownBy w' row)(hg:some g≠row):zh w' g t cs:=(hb.block g h.lt hg).trans h
theorem zh.ne_ {g':Nat}{t':TypeId}{a:Array Value}(h:zh w g t cs)(h':zh w g' t' a)(c:t≠t'):g≠g':=by
 rintro rfl;unfold zh at h h';rw [h] at h';injection h' with h';injection h' with _ ht;exact c ht
end
section
variable {P:Program}(w:World)
theorem Rc (a:Nat)(t ty e:TypeId)(i:TypeInfo)(j:Nat)(ht:P.underlying t=some (.slice e))(hi:P.info? e=some i)
  (v:Value) (n:Nat) (xs:List Value) (d:w.ownsRow a e j v n xs) (c:Nat):(Builtin.append_ #[t,t] ty #[v,.slice none 0 c]).run P w=.ok v w:=by
 rcases d.2 with⟨rfl,rfl⟩|⟨g,cap,cur,rfl,_,_,hnc,_⟩
 ·simp [Builtin.append_,run_underlying ht,sizeOf,typeInfo,hi,Builtin.lenOf,Builtin.firstCells]
 ·simp [Builtin.append_,run_underlying ht,sizeOf,typeInfo,hi,Builtin.lenOf,Builtin.firstCells,hnc,storeCells]
theorem WZ (d:Nat)(t ty e:TypeId)(i:TypeInfo)(z:Value)(size bytes:Nat)(ht:P.underlying t=some (.slice e))(hi:P.info? e=some i)(hz:i.zero=some z)
  (y:i.size=size) (E:i.bytes=bytes) (F:z.cells.size=size) (hsz:0<size)
  (v:Value) (n:Nat) (xs:List Value) (g:w.ownsRow d e size v n xs)
  (B:Nat) (A:ze) (m c:Nat) (a:List Value) (hr:zL w B size A m a) (h1:∀u ∈ a,u.oneCell'=true)
  (D:n+m<=maxLen) (k:(n+m)*bytes<=140737488355328) (s:d<=w.heap.size):
  ∃ v' w',(Builtin.append_ #[t,t] ty #[v,.slice A m c]).run P w = .ok v' w' ∧ w'.ownsRow d e size v' (n + m) (xs ++ a) ∧ w.grownBy w' v.ownBlock ∧
   (v'.ownBlock=v.ownBlock\/v'.ownBlock=some w.heap.size):=by
 rcases A with _|ad
 ·have hm:m=0:=by
   rcases xQ m with h0|h0
   ·exact h0
   ·obtain⟨ad,h,_⟩:=hr.2 h0;cases h
  subst hm;have hn:a=[]:=QX (by simpa using hr.1);subst hn;exact⟨v,w,Rc w d t ty e i size ht hi v n xs g c,by simpa using g,World.grownBy.refl w _,.inl rfl⟩
 ·have o:∀j u,a[j]?=some u->w.cell? (ad.add j)=some u:=by
   intro j u hu;rcases xQ m with h0|h0
   ·subst h0;have hn:a=[]:=QX (by simpa using hr.1);subst hn;simp at hu
   ·obtain⟨ad',h,_,hc⟩:=hr.2 h0;injection h with h;subst h;exact hc j u hu
  obtain⟨v',w',C,h2,h3,_,h5⟩:=run_append_own_at (P:=P) w d t ty e i z size bytes ht hi hz y E F hsz v n xs g ad m c a hr.1 o h1 D k s;exact⟨v',w',C,h2,h3,h5⟩
theorem Vi {o:Oper}{a:Act}{K:Act->World->Prop}{Q:Exit->Act->World->Prop}(s x:Operand)(t:TypeId)
  (ho:o.op=.call {callee:=.builtin .append,args:=#[s,x],argTypes:=#[t,t]})
  (d:Nat) (e:TypeId) (i:TypeInfo) (z:Value) (size bytes:Nat) (ht:P.underlying t=some (.slice e)) (hi:P.info? e=some i) (hz:i.zero=some z)
  (y:i.size=size) (F:i.bytes=bytes) (G:z.cells.size=size) (hsz:0<size)
  (v:Value) (n:Nat) (xs:List Value) (hs:a.eval s=v) (C:w.ownsRow d e size v n xs)
  (B:Nat) (A:ze) (m c:Nat) (g:List Value) (hx:a.eval x=.slice A m c) (hr:zL w B size A m g) (h1:∀u ∈ g,u.oneCell'=true)
  (E:n+m<=maxLen) (j:(n+m)*bytes<=140737488355328) (k:d<=w.heap.size)
  (h:∀v' w',w'.ownsRow d e size v' (n+m) (xs++g)->w.grownBy w' v.ownBlock->(v'.ownBlock=v.ownBlock\/v'.ownBlock=some w.heap.size)->K (a.put o.dst v') w'):o.wp P a w K Q:=by
 obtain⟨v',w',D,h2,h3,h4⟩:=WZ (P:=P) w d t o.type e i z size bytes ht hi hz y F G hsz v n xs C B A m c g hr h1 E j k;unfold Oper.wp execOp;simp only [ho,resolve,invoke,builtin,Sem.run_bind,Sem.run_pure,Result.andThen_ok,YQ,yV,List.map_nil,hs,hx,D];exact h v' w' h2 h3 h4
theorem bP {D:Array Oper}{rest:List Oper}{o:Oper}{a:Act}{Q:Exit->Act->World->Prop}(G:o.guard=none)(s x:Operand)(t:TypeId)
  (ho:o.op=.call {callee:=.builtin .append,args:=#[s,x],argTypes:=#[t,t]})
  (d:Nat) (e:TypeId) (i:TypeInfo) (z:Value) (size bytes:Nat) (ht:P.underlying t=some (.slice e)) (hi:P.info? e=some i) (hz:i.zero=some z)
  (y:i.size=size) (F:i.bytes=bytes) (H:z.cells.size=size) (hsz:0<size)
  (v:Value) (n:Nat) (xs:List Value) (hs:a.eval s=v) (C:w.ownsRow d e size v n xs)
  (B:Nat) (A:ze) (m c:Nat) (g:List Value) (hx:a.eval x=.slice A m c) (hr:zL w B size A m g) (h1:∀u ∈ g,u.oneCell'=true)
  (E:n+m<=maxLen) (j:(n+m)*bytes<=140737488355328) (k:d<=w.heap.size)
  (h:∀v' w',w'.ownsRow d e size v' (n+m) (xs++g)->w.grownBy w' v.ownBlock->(v'.ownBlock=v.ownBlock\/v'.ownBlock=some w.heap.size)->wpList P D Q rest (a.put o.dst v') w'):wpList P D Q (o::rest) a w:=
 wpList_plain G λ_ hK=>Vi w s x t ho d e i z size bytes ht hi hz y F H hsz v n xs hs C B A m c g hx hr h1 E j k λv' w' h2 h3 h4=>hK _ _ (h v' w' h2 h3 h4)
theorem Vd {D:Array Oper}{o:Oper}{a:Act}{K:Act->World->Prop}{Q:Exit->Act->World->Prop}{E:Prop}(H:o.guard=none)(s x:Operand)(t:TypeId)
  (ho:o.op=.call {callee:=.builtin .append,args:=#[s,x],argTypes:=#[t,t]})
  (d:Nat) (e:TypeId) (i:TypeInfo) (z:Value) (size bytes:Nat) (ht:P.underlying t=some (.slice e)) (hi:P.info? e=some i) (hz:i.zero=some z)
  (y:i.size=size) (G:i.bytes=bytes) (I:z.cells.size=size) (hsz:0<size)
  (v:Value) (n:Nat) (xs:List Value) (hs:a.eval s=v) (C:w.ownsRow d e size v n xs)
  (B:Nat) (A:ze) (m c:Nat) (g:List Value) (hx:a.eval x=.slice A m c) (hr:zL w B size A m g) (h1:∀u ∈ g,u.oneCell'=true)
  (F:n+m<=maxLen) (j:(n+m)*bytes<=140737488355328) (k:d<=w.heap.size)
  (h:∀v' w',w'.ownsRow d e size v' (n+m) (xs++g)->w.grownBy w' v.ownBlock->(v'.ownBlock=v.ownBlock\/v'.ownBlock=some w.heap.size)->K (a.put o.dst v') w'):
  if Region.wanted o (yielded D a.tmps)=true then Oper.wp P o a w K Q else E:=by
 have hw:Region.wanted o (yielded D a.tmps)=true:=by simp [Region.wanted,H]
 rw [if_pos hw];exact Vi w s x t ho d e i z size bytes ht hi hz y G I hsz v n xs hs C B A m c g hx hr h1 F j k h
end
theorem vI (w:World)(u:Value)(t:TypeId):∀(j:Nat) (u':Value),[u][j]?=some u'->(w.alloc (.cells #[u] t)).cell? ((⟨w.heap.size,0,none⟩:Addr).add j)=some u':=by
 intro j u' hj
 match j,hj with
 |0,hj=>simp at hj;subst hj;simp [Addr.add]
theorem jq (k:IntKind)(z:Int):∀u ∈ [Value.int k z],u.oneCell'=true:=by intro u hu;simp at hu;subst hu;rfl
theorem X7 {a b:Int}(h:a=b):Ending.returned (.int .i64 a)=.returned (.int .i64 b):=by rw [h]
theorem jd {P:Program}{f:FuncId}{args:Array Value}
  (h:Calls P f args (w.drewN n) λe w'=>e=.returned v/\w.drewN n=w'):Calls P f args (w.drewN n) λe a=>e=.returned v/\∃m,a=w.drewN m:=
 h.mono λ_ _ ⟨he,hm⟩=>⟨he,n,hm.symm⟩
def rh (w:World)(n:Nat)(xs:List Value)(e:Ending)(w':World):Prop:=
 ∃(A:ze) (c:Nat),e=.returned (.slice A n c)/\zL w' w'.heap.size 1 A n xs/\n<=c/\(c<=9223372036854775807/\∀ad,A=some ad->w.heap.size<=ad.block)/\Below w.heap.size w w'
theorem Xi (h:w.ownsRow a e 1 v n xs):
  ∃(A:ze) (c:Nat),v=.slice A n c/\zL w w.heap.size 1 A n xs/\n<=c/\c<=9223372036854775807/\∀ad,A=some ad->a<=ad.block:=by
 have h2:=h.2;rcases h2 with⟨rfl,rfl⟩|⟨g,cap,cur,rfl,hbg,_,hnc,hcm,_⟩
 ·exact⟨none,0,rfl,zL.of_own h,qX _,za,by intro ad e;cases e⟩
 ·exact⟨some ⟨g,0,none⟩,cap,rfl,zL.of_own h,hnc,by unfold maxLen at hcm;omega,by intro ad e;cases e;exact hbg⟩
theorem Z1 {t:TypeId}(h:w'.ownsRow w.heap.size t 1 v n xs)(hb:Below w.heap.size w w'):rh w n xs (.returned v) w':=by
 obtain⟨A,c,rfl,hr,h1,h2,h3⟩:=Xi h;exact⟨A,c,rfl,hr,h1,⟨h2,h3⟩,hb⟩
theorem rh.from_ {e:Ending}(h:rh w1 n xs e w')(hb:Below w.heap.size w w1):rh w n xs e w':=by
 obtain⟨A,c,rfl,hr,h1,⟨h2,h3⟩,h4⟩:=h;exact⟨A,c,rfl,hr,h1,⟨h2,λad e=>qD hb.size (h3 ad e)⟩,hb.trans (h4.mono hb.size)⟩
theorem _root_.Go.World.ownsRow.drewN_ (h:w.ownsRow a e c v n xs)(k:Nat):(w.drewN k).ownsRow a e c v n xs:=h
theorem OZ {size:Nat}(h:w.ownsRow a e size v n xs)(hb:Below w.heap.size w w'):w'.ownsRow a e size v n xs:=by
 refine⟨h.1,?_⟩;rcases h.2 with hn|⟨g,cap,cur,rfl,hbg,hg,rest⟩
 ·exact .inl hn
 ·refine .inr ⟨g,cap,cur,rfl,hbg,?_,rest⟩;rw [hb.block g (Array.getElem?_eq_some_iff.1 hg).1];exact hg
theorem uY {a:World}(h:Below B a w)(n:Nat):Below B a (w.drewN n):=⟨h.os,h.tape,h.output,h.size,h.block⟩
theorem RW {P:Program}(t t2 ty e e2:TypeId)(ht:P.underlying t=some (.slice e))(a:P.underlying t2=some (.slice e2))(args:Array Value)(w:World):
  (Builtin.append_ #[t,t2] ty args).run P w=(Builtin.append_ #[t,t] ty args).run P w:=by
 unfold Builtin.append_;rcases h0:args[0]? with _|s
 ·simp
 ·rcases h1:args[1]? with _|x
  ·simp
  ·cases s<;>simp [run_underlying ht,run_underlying a]
theorem Rd {P:Program}(w:World){E:Array Oper}{rest:List Oper}{o:Oper}{a:Act}{Q:Exit->Act->World->Prop}(H:o.guard=none)(s x:Operand)(t t2:TypeId)
  (ho:o.op=.call {callee:=.builtin .append,args:=#[s,x],argTypes:=#[t,t2]})
  (d:Nat) (e e2:TypeId) (i:TypeInfo) (z:Value) (size bytes:Nat) (ht:P.underlying t=some (.slice e)) (I:P.underlying t2=some (.slice e2)) (hi:P.info? e=some i) (hz:i.zero=some z)
  (y:i.size=size) (G:i.bytes=bytes) (J:z.cells.size=size) (hsz:0<size)
  (v:Value) (n:Nat) (xs:List Value) (hs:a.eval s=v) (C:w.ownsRow d e size v n xs)
  (B:Nat) (A:ze) (m c:Nat) (g:List Value) (hx:a.eval x=.slice A m c) (hr:zL w B size A m g) (h1:∀u ∈ g,u.oneCell'=true)
  (F:n+m<=maxLen) (j:(n+m)*bytes<=140737488355328) (k:d<=w.heap.size)
  (h:∀v' w',w'.ownsRow d e size v' (n+m) (xs++g)->w.grownBy w' v.ownBlock->(v'.ownBlock=v.ownBlock\/v'.ownBlock=some w.heap.size)->wpList P E Q rest (a.put o.dst v') w'):wpList P E Q (o::rest) a w:=
 wpList_plain H λK hK=>by
  obtain⟨v',w',D,h2,h3,h4⟩:=WZ (P:=P) w d t o.type e i z size bytes ht hi hz y G J hsz v n xs C B A m c g hr h1 F j k;unfold Oper.wp execOp;simp only [ho,resolve,invoke,builtin,Sem.run_bind,Sem.run_pure,Result.andThen_ok,YQ,yV,List.map_nil,hs,hx,RW t t2 o.type e e2 ht I,D];exact hK _ _ (h v' w' h2 h3 h4)
theorem Pd (w:World)(u u2:Value)(t:TypeId):∀(j:Nat) (u':Value),[u,u2][j]?=some u'->(w.alloc (.cells #[u,u2] t)).cell? ((⟨w.heap.size,0,none⟩:Addr).add j)=some u':=by
 intro j u' hj
 match j,hj with
 |0,hj=>simp at hj;subst hj;simp [Addr.add]
 |1,hj=>simp at hj;subst hj;simp [Addr.add]
theorem O7 (k:IntKind)(y z:Int):∀u ∈ [Value.int k y,Value.int k z],u.oneCell'=true:=by
 intro u hu;simp at hu;rcases hu with rfl|rfl<;>rfl
theorem sV {P:Program}(t e:TypeId)(i:TypeInfo)(z:Value)(ht:P.underlying t=some (.slice e))(hi:P.info? e=some i)(hz:i.zero=some z)
  (kl kc:IntKind) (n c:Nat) (hnc:n<=c) (hbytes:i.bytes*c<=281474976710656) (h63:c<=9223372036854775807) (w:World):
  (Instr.makeSlice t (.int kl (n:Int)) (.int kc (c:Int))).run P w=.ok (.slice (some ⟨w.heap.size,0,none⟩) n c) (w.alloc (.cells (madeCells z.cells (c*i.size)) e)):=by
 have hb:(i.bytes:Int)*(c:Int)<=281474976710656:=by
  have h:((i.bytes*c:Nat):Int)<=281474976710656:=za;rwa [xX] at h
 have hr:=run_make (P:=P) w t e i z ht hi hz kl kc n c za za hb za;simp only [Int.toNat_natCast] at hr;exact hr
def dv (b:Nat):List Nat->Nat
 |[]=>0
 |d::l=>d+b*dv b l
def zH (b:Nat)(l:List Nat):Prop:=∀d ∈ l,d<b
def jz (b:Nat):Nat->Nat->List Nat
 |0,_=>[]
 |f+1,x=>if x=0 then [] else x%b::jz b f (x / b)
def dg (b x:Nat):List Nat:=jz b x x
theorem VZ:∀(b f g x:Nat),2<=b->x<=f->x<=g->jz b f x=jz b g x
 |b,0,g,x,_,h,_=>by
   have:x=0:=za;subst this;cases g<;>simp [jz]
 |b,f+1,0,x,_,_,h=>by
   have:x=0:=za;subst this;simp [jz]
 |b,f+1,g+1,x,hb,h1,h2=>by
   unfold jz
   split
   ·rfl
   ·rename_i hx
    have:x / b<x:=Nat.div_lt_self za za;rw [VZ b f g (x / b) hb za za]
theorem oW (b:Nat):dg b 0=[]:=rfl
theorem js (hb:2<=b)(hx:x≠0):dg b x=x%b::dg b (x / b):=by
 obtain⟨y,rfl⟩:∃y,x=y+1:=⟨x - 1,za⟩;unfold dg;rw [jz,if_neg hx];have:(y+1) / b<y+1:=Nat.div_lt_self za za;rw [VZ b y ((y+1) / b) _ hb za (qX _)]
theorem Wy (hb:2<=b){P:Nat->Prop}(h0:P 0)(hs:∀x,x≠0->P (x / b)->P x)(x:Nat):P x:=by
 induction x using Nat.strongRecOn with
 |ind x ih=>
   by_cases hx:x=0
   ·subst hx;exact h0
   ·exact hs x hx (ih _ (Nat.div_lt_self za za))
theorem vw {b:Nat}(hb:2<=b)(x:Nat):dv b (dg b x)=x:=by
 refine Wy hb (P:=λx=>dv b (dg b x)=x) rfl (λx hx ih=>?_) x;rw [js hb hx,dv,ih];exact XC x b
theorem uA {b:Nat}(hb:2<=b)(x:Nat):zH b (dg b x):=by
 refine Wy hb (P:=λx=>zH b (dg b x)) (by intro d hd;simp [oW] at hd) (λx hx ih=>?_) x;rw [js hb hx];intro d hd;rcases List.mem_cons.1 hd with rfl|hd
 ·exact QA _ za
 ·exact ih d hd
theorem tF (b:Nat):∀(l m:List Nat),dv b (l++m)=dv b l+b^l.length*dv b m
 |[],m=>by simp [dv]
 |d::l,m=>by
   rw [YS,dv,dv,tF b l m,xO,qO,qM,xH,qB (b^l.length) b,qH]
theorem zH.append {l m:List Nat}(hl:zH b l)(hm:zH b m):zH b (l++m):=by
 intro d hd;rcases List.mem_append.1 hd with h|h
 ·exact hl d h
 ·exact hm d h
theorem zH.take {l:List Nat}(hl:zH b l)(k:Nat):zH b (l.take k):=λd hd=>hl d (XZ hd)
theorem zH.drop {l:List Nat}(hl:zH b l)(k:Nat):zH b (l.drop k):=λd hd=>hl d (XA hd)
theorem zH.getD {l:List Nat}(hl:zH b l)(hb:0<b)(k:Nat):l.getD k 0<b:=by
 by_cases hk:k<l.length
 ·exact hl _ (by rw [qQ,qY hk];exact xM hk)
 ·rw [qQ,QE za];exact hb
theorem zH.zeros (hb:0<b)(n:Nat):zH b (List.replicate n 0):=by
 intro d hd;rw [List.eq_of_mem_replicate hd];exact hb
theorem iK (b:Nat):∀n,dv b (List.replicate n 0)=0
 |0=>rfl
 |n+1=>by rw [List.replicate_succ,dv,iK b n];simp
theorem vy {b:Nat}:∀{l:List Nat},zH b l->dv b l<b^l.length
 |[],_=>by simp [dv]
 |d::l,h=>by
   have h1:=h d zG;have h2:=vy (l:=l) (λe he=>h e (by simp [he]));rw [dv,xO,qO,qB (b^l.length) b];have:b*(dv b l+1)<=b*b^l.length:=QW b h2;rw [qM] at this;omega
theorem vR (b:Nat)(l:List Nat)(d:Nat):dv b (l++[d])=dv b l+b^l.length*d:=by rw [tF];simp [dv]
theorem uv (b:Nat)(l:List Nat)(k:Nat):dv b (l.take (k+1))=dv b (l.take k)+b^k*l.getD k 0:=by
 by_cases h:k<l.length
 ·rw [qC h,vR,qL,xG za];simp [List.getD,qY h]
 ·rw [qV za,qV za,qQ,QE za];simp
theorem Td (b:Nat)(l:List Nat)(k:Nat)(hk:k<=l.length):dv b l=dv b (l.take k)+b^k*dv b (l.drop k):=by
 have h:=tF b (l.take k) (l.drop k);rw [YC,qL,xG hk] at h;exact h
theorem Sm (hb:0<b){l:List Nat}(h:zH b l)(k:Nat):dv b (l.take k)=dv b l%b^k:=by
 by_cases hk:k<=l.length
 ·have h2:=vy (h.take k);rw [qL,xG hk] at h2;rw [Td b l k hk,yZ];exact(qS h2).symm
 ·rw [qV za];have h2:=vy h;exact(qS (qJ h2 (qG hb za))).symm
theorem ft {b:Nat}(hb:0<b){l:List Nat}(h:zH b l)(k:Nat):dv b (l.drop k)=dv b l / b^k:=by
 by_cases hk:k<=l.length
 ·have h2:=vy (h.take k);rw [qL,xG hk] at h2;rw [Td b l k hk,Nat.add_mul_div_left _ _ (XB hb),QB h2,xR]
 ·rw [xA za];have h2:=vy h;exact(QB (qJ h2 (qG hb za))).symm
theorem jt (hb:0<b){l:List Nat}(h:zH b l)(k:Nat):l.getD k 0=dv b l / b^k%b:=by
 have h1:=ft hb h k;rw [<-h1];by_cases hk:k<l.length
 ·rw [yE hk,dv,yZ,qQ,qY hk];exact(qS (h _ (xM hk))).symm
 ·rw [xA za,qQ,QE za];simp [dv]
def nK (l:List Nat):Prop:=l≠[]->l.getD (l.length - 1) 0≠0
theorem nK.nil:nK []:=λh=>absurd rfl h
theorem nK.tail {d:Nat}{l:List Nat}(h:nK (d::l)):nK l:=by
 intro hl;have h2:=h zG;have hp:0<l.length:=List.length_pos_iff.2 hl;rw [xO,show l.length+1 - 1=(l.length - 1)+1 from by omega] at h2;simpa using h2
theorem ii (hb:2<=b)(x:Nat):nK (dg b x):=by
 refine Wy hb (P:=λx=>nK (dg b x)) nK.nil (λx hx ih=>?_) x;rw [js hb hx];intro _;by_cases h:dg b (x / b)=[]
 ·rw [h];have h0:=vw hb (x / b);rw [h] at h0;have a:x<b:=by
   rcases xW x b with h2|h2
   ·exact h2
   ·have:=Nat.div_pos h2 za;simp [dv] at h0;omega
  simp [qS a];exact hx
 ·have hp:0<(dg b (x / b)).length:=List.length_pos_iff.2 h;rw [xO,show(dg b (x / b)).length+1 - 1=((dg b (x / b)).length - 1)+1 from by omega];simpa using ih h
theorem qi {b:Nat}(hb:2<=b):∀{l:List Nat},zH b l->nK l->l=dg b (dv b l)
 |[],_,_=>rfl
 |d::l,h,hn=>by
   have h1:=h d zG;have h0:zH b l:=λe he=>h e (by simp [he]);have e:=qi hb h0 hn.tail;have c:dv b (d::l)≠0:=by
    rw [dv];intro hz;have hd:d=0:=za;have hl:b*dv b l=0:=za;have a:dv b l=0:=by
     rcases Nat.mul_eq_zero.1 hl with h|h
     ·omega
     ·exact h
    rw [a,oW] at e;subst e;subst hd;exact hn zG zG
   rw [js hb c,dv,yZ,qS h1,Nat.add_mul_div_left _ _ za,QB h1,xR,<-e]
theorem jA {b:Nat}(hb:2<=b)(x:Nat)(hx:x≠0):1<=(dg b x).length/\b^((dg b x).length - 1)<=x:=by
 have a:dg b x≠[]:=by rw [js hb hx];simp
 have hp:=List.length_pos_iff.2 a;refine⟨hp,?_⟩;have hn:=ii hb x a;rw [jt za (uA hb x),vw hb] at hn;rcases xW x (b^((dg b x).length - 1)) with h|h
 ·rw [QB h] at hn;simp at hn
 ·exact h
theorem yv {b:Nat}(hb:2<=b)(x:Nat):x<b^(dg b x).length:=by
 have:=vy (uA hb x);rwa [vw hb] at this
theorem wP {b:Nat}(hb:2<=b)(x n:Nat)(h:x<b^n):(dg b x).length<=n:=by
 by_cases hx:x=0
 ·subst hx;simp [oW]
 ·have h2:=jA hb x hx;have:b^((dg b x).length - 1)<b^n:=QO h2.2 h;have:=(Nat.pow_lt_pow_iff_right za).1 this;omega
theorem sf {b:Nat}(hb:2<=b){x y:Nat}(h:x<=y):(dg b x).length<=(dg b y).length:=wP hb _ _ (QO h (yv hb y))
theorem jM {b:Nat}(hb:2<=b){x y:Nat}(h:dg b x=dg b y):x=y:=by rw [<-vw hb x,h,vw hb]
theorem UT (b:Nat){l:List Nat}{n:Nat}(hn:n<l.length)(h:l.getD n 0=0):dv b (l.take (n+1))=dv b (l.take n):=by
 have _:=hn;rw [uv,h];simp
theorem Sj (hb:2<=b){l:List Nat}{n:Nat}(h:zH b l)(hn:n<=l.length)(hv:dv b (l.take n)=dv b l)(hz:n=0\/l.getD (n - 1) 0≠0):l.take n=dg b (dv b l):=by
 rw [<-hv];refine qi hb (h.take n) ?_;intro a;rw [qL,xG hn];rcases hz with rfl|hz
 ·simp at a
 ·by_cases h0:n=0
  ·subst h0;simp at a
  ·rw [qQ,xI,if_pos za,<-qQ];exact hz
theorem gi (b x j:Nat):x / b^j=b*(x / b^(j+1))+x / b^j%b:=by
 rw [qO,<-xB];exact(XL _ _).symm
theorem qe {b:Nat}(h:x / b^(j+1)=y / b^(j+1))(hd:x / b^j%b=y / b^j%b):x / b^j=y / b^j:=by
 rw [gi b x j,gi b y j,h,hd]
theorem bF {b:Nat}(h:x / b^(j+1)=y / b^(j+1))(hd:x / b^j%b<y / b^j%b):x<y:=by
 have h1:=gi b x j;have h2:=gi b y j;rw [h] at h1;rcases xW x y with hl|hl
 ·exact hl
 ·have:=Nat.div_le_div_right (c:=b^j) hl;omega
theorem gn {b:Nat}(hb:2<=b){x y:Nat}(h:(dg b x).length<(dg b y).length):x<y:=by
 rcases xW x y with hl|hl
 ·exact hl
 ·have:=sf hb hl;omega
theorem cI (i:Nat):(65536:Nat)^(4*i)=18446744073709551616^i:=by rw [yL]
theorem ig (b y s:Nat):y%b^(s+1)=y%b+b*(y / b%b^s):=by rw [qO,qB (b^s) b,Nat.mod_mul]
theorem uh (b x k:Nat):x%b^(k+1)=x%b^k+b^k*(x / b^k%b):=by rw [qO,Nat.mod_mul]
theorem lj {D:List Nat}{v w i:Nat}(a:D.length=4*i+k)(hv:dv 65536 D=v+18446744073709551616^i*(w%65536^k)):
  dv 65536 (D++[w / 65536^k%65536])=v+18446744073709551616^i*(w%65536^(k+1)):=by
 rw [vR,hv,a,uh 65536 w k,qM,xU,cI,qH,xH]
theorem Md (x t s:Nat):x / 65536^(t+1)%65536^s*65536+x / 65536^t%65536=x / 65536^t%65536^(s+1):=by
 rw [ig 65536 (x / 65536^t) s,xB,<-qO,qB,YO]
structure kt (x j:Nat)(L:List Nat):Prop where
 len:L.length=j
 dgs:zH 18446744073709551616 L
 val:dv 18446744073709551616 L=x%18446744073709551616^j
theorem kt.start (x:Nat):kt x 0 []:=⟨rfl,by intro d hd;simp at hd,by simp [dv,XU]⟩
theorem kt.step {L:List Nat}(h:kt x j L):kt x (j+1) (L++[x / 65536^(4*j)%65536^4]):=by
 refine⟨by simp [h.len],h.dgs.append (by intro d hd;simp at hd;subst hd;exact QA _ zf),?_⟩;rw [vR,h.val,h.len,cI,show(65536:Nat)^4=18446744073709551616 from by decide,<-uh]
theorem kt.done {L:List Nat}(h:kt x j L)(hlo:j=0\/4*(j - 1)<(dg 65536 x).length)(d:(dg 65536 x).length<=4*j):L=dg 18446744073709551616 x:=by
 have hx:x<18446744073709551616^j:=by
  rw [<-cI];exact qJ (yv zf x) (qG zf d)
 have hv:dv 18446744073709551616 L=x:=by rw [h.val,qS hx]
 conv=>rhs;rw [<-hv]
 refine qi zf h.dgs ?_;intro g;have hj:j≠0:=by
  rintro rfl;exact g (List.length_eq_zero_iff.1 h.len)
 obtain⟨i,rfl⟩:∃i,j=i+1:=⟨j - 1,za⟩;rw [jt zf h.dgs,hv,h.len];have a:4*i<(dg 65536 x).length:=za;have k:x≠0:=by rintro rfl;simp [oW] at a
 have c:18446744073709551616^i<=x:=by
  rw [<-cI];exact qD (qG zf za) (jA zf x k).2
 have h1:0<x / 18446744073709551616^(i+1 - 1):=Nat.div_pos (by simpa using c) (XB zf);have h2:x / 18446744073709551616^(i+1 - 1)<18446744073709551616:=by
  rw [Nat.add_sub_cancel];refine(QM (XB zf)).2 ?_;rw [qB,<-qO];exact hx
 rw [qS h2];omega
def zt (k:IntKind)(l:List Nat):List Value:=l.map λd:Nat=>Value.int k (d:Int)
theorem wL (k:IntKind)(l:List Nat):(zt k l).length=l.length:=by simp [zt]
theorem sE (k:IntKind)(l m:List Nat):zt k (l++m)=zt k l++zt k m:=by simp [zt]
theorem UL (k:IntKind)(l:List Nat)(n:Nat):(zt k l).take n=zt k (l.take n):=by simp [zt]
theorem N4 (k:IntKind)(l:List Nat)(n:Nat):(zt k l).drop n=zt k (l.drop n):=by simp [zt]
theorem iO (k:IntKind)(l:List Nat):∀u ∈ zt k l,u.oneCell'=true:=by
 intro u hu;obtain⟨d,_,rfl⟩:=List.mem_map.1 hu;rfl
theorem wQ {l:List Nat}(hr:zL w B 1 A n (zt K l)){k:Nat}(hk:k<n):∃ad:Addr,A=some ad/\ad.block<B/\w.cell? (ad.add k)=some (.int K (l.getD k 0:Nat)):=by
 have hlen:l.length=n:=by have:=hr.1;rw [wL] at this;omega
 obtain⟨ad,u,e,hb,hu,hc⟩:=hr.at_ hk;refine⟨ad,e,hb,hc.trans ?_⟩;rw [qQ,qY za];simp only [zt,qW,qY (show k<l.length by omega),Option.map_some,Option.some.injEq] at hu;rw [<-hu];rfl
theorem zL.len_ {l:List Nat}(hr:zL w B 1 A n (zt K l)):l.length=n:=by
 have:=hr.1;rw [wL] at this;omega
theorem zL.take_ (hr:zL w B 1 A n xs)(hk:k<=n):zL w B 1 A k (xs.take k):=by
 have h1:=hr.1;refine⟨by rw [qL];omega,λh=>?_⟩;obtain⟨ad,e,hb,hc⟩:=hr.2 za;refine⟨ad,e,hb,λj u hu=>hc j u ?_⟩;rw [xI] at hu
 split at hu
 ·exact hu
 ·cases hu
def zE (w:World)(x:Nat)(A:ze)(n c:Nat):Prop:=
 zL w w.heap.size 1 A n (zt .i64 (dg 65536 x))/\n<=c/\c<=9223372036854775807
def vu (w:World)(x:Nat):Ending->World->Prop:=rh w (dg 65536 x).length (zt .i64 (dg 65536 x))
theorem zE.len (h:zE w x A n c):n=(dg 65536 x).length:=h.1.len_.symm
theorem zE.below (h:zE w x A n c)(hb:Below w.heap.size w w'):zE w' x A n c:=
 ⟨(h.1.below hb).more hb.size,h.2⟩
theorem vu.elim {e:Ending}(h:vu w x e w'):∃(A:ze) (n c:Nat),e=.returned (.slice A n c)/\zE w' x A n c/\Below w.heap.size w w':=by
 obtain⟨A,c,rfl,hr,h1,⟨h2,_⟩,h3⟩:=h;exact⟨A,_,c,rfl,⟨hr,h1,h2⟩,h3⟩
theorem vu.from_ {e:Ending}(h:vu w1 x e w')(hb:Below w.heap.size w w1):vu w x e w':=rh.from_ h hb
def yg (x y:Nat):Int:=if x<y then -1 else if x=y then 0 else 1
theorem sh (h:x<y):yg x y= -1:=if_pos h
theorem s4 (h:y<x):yg x y=1:=by unfold yg;rw [if_neg za,if_neg za]
theorem ku {x y:Nat}(h:x=y):yg x y=0:=by unfold yg;rw [if_neg za,if_pos h]
theorem ng (x j:Nat):(dg 65536 x).getD j 0=x / 65536^j%65536:=by rw [jt zf (uA zf x),vw zf]
def jy (w:World)(x:Nat):Ending->World->Prop:=rh w (dg 18446744073709551616 x).length (zt .u64 (dg 18446744073709551616 x))
structure kC (x y k:Nat)(out:List Nat)(c:Nat):Prop where
 len:out.length=k
 dgs:zH 65536 out
 carry:c<=1
 sum:x%65536^k+y%65536^k=dv 65536 out+65536^k*c
theorem kC.start (x y:Nat):kC x y 0 [] 0:=⟨rfl,by intro d hd;simp at hd,za,by simp [dv,XU]⟩
theorem kC.step {s:Nat}{a:List Nat}(h:kC x y k a c)(hs:s=x / 65536^k%65536+y / 65536^k%65536+c):kC x y (k+1) (a++[s%65536]) (s / 65536):=by
 have h1:x / 65536^k%65536<65536:=QA _ zf;have h2:y / 65536^k%65536<65536:=QA _ zf;have h3:=h.carry;refine⟨by simp [h.len],h.dgs.append (by intro d hd;simp at hd;subst hd;omega),za,?_⟩;have e:=h.sum;rw [uh 65536 x k,uh 65536 y k,vR,h.len,qO,qH,xH (dv 65536 a),<-qM,XC,hs,qM,qM];omega
theorem kC.done {a:List Nat}(h:kC x y k a 0)(hx:(dg 65536 x).length<=k)(hy:(dg 65536 y).length<=k):dv 65536 a=x+y:=by
 have e:=h.sum;have h1:x<65536^k:=qJ (yv zf x) (qG zf hx);have h2:y<65536^k:=qJ (yv zf y) (qG zf hy);rw [qS h1,qS h2] at e;omega
structure kF (x y k:Nat)(out:List Nat)(c:Nat):Prop where
 len:out.length=k
 dgs:zH 65536 out
 lack:c<=1
 sum:dv 65536 out+y%65536^k=x%65536^k+65536^k*c
theorem kF.start (x y:Nat):kF x y 0 [] 0:=⟨rfl,by intro d hd;simp at hd,za,by simp [dv,XU]⟩
theorem kF.step {d c':Nat}{a:List Nat}(h:kF x y k a c)(hd:d<65536)(hc:c'<=1)(hs:d+y / 65536^k%65536+c=x / 65536^k%65536+65536*c'):kF x y (k+1) (a++[d]) c':=by
 refine⟨by simp [h.len],h.dgs.append (by intro e he;simp at he;subst he;exact hd),hc,?_⟩;have e:=h.sum;have e2:65536^k*d+65536^k*(y / 65536^k%65536)+65536^k*c=65536^k*(x / 65536^k%65536)+65536^k*(65536*c'):=by
  rw [<-qM,<-qM,hs,qM]
 rw [uh 65536 x k,uh 65536 y k,vR,h.len,qO,qH (65536^k) 65536 c'];omega
theorem kF.done {a:List Nat}(h:kF x y k a c)(d:y<=x)(hx:(dg 65536 x).length<=k):dv 65536 a=x - y:=by
 have e:=h.sum;have h1:x<65536^k:=qJ (yv zf x) (qG zf hx);have h3:=vy h.dgs;rw [h.len] at h3;rw [qS h1,qS (QO d h1)] at e;have h4:=h.lack;have:c=0\/c=1:=za;rcases this with rfl|rfl<;>omega
structure ko (x m a k:Nat)(out:List Nat)(c:Nat):Prop where
 len:out.length=k
 dgs:zH 65536 out
 carry:c<65536
 sum:dv 65536 out+65536^k*c=x%65536^k*m+a
theorem ko.start (x m a:Nat)(ha:a<65536):ko x m a 0 [] a:=⟨rfl,by intro d hd;simp at hd,ha,by simp [dv,XU]⟩
theorem ko.step {s:Nat}(h:ko x m a k g c)(hm:m<65536)(hs:s=x / 65536^k%65536*m+c):ko x m a (k+1) (g++[s%65536]) (s / 65536):=by
 have h1:x / 65536^k%65536<65536:=QA _ zf;have h2:x / 65536^k%65536*m<=65535*65535:=Nat.mul_le_mul za za;have h3:=h.carry;refine⟨by simp [h.len],h.dgs.append (by intro d hd;simp at hd;subst hd;omega),za,?_⟩;have e:=h.sum;have e2:65536^k*(s%65536)+65536^k*(65536*(s / 65536))=65536^k*s:=by rw [<-qM,XC]
 have e3:65536^k*s=65536^k*(x / 65536^k%65536)*m+65536^k*c:=by rw [hs,qM,qH]
 rw [vR,h.len,qO,qH (65536^k) 65536,<-qO,uh 65536 x k,QN];omega
theorem ko.done (h:ko x m a k g c)(hx:(dg 65536 x).length<=k):dv 65536 (g++[c%65536,c / 65536])=x*m+a/\zH 65536 (g++[c%65536,c / 65536]):=by
 have e:=h.sum;have h1:x<65536^k:=qJ (yv zf x) (qG zf hx);rw [qS h1] at e;have h3:=h.carry;refine⟨?_,h.dgs.append (by intro d hd;simp at hd;rcases hd with rfl|rfl<;>omega)⟩;rw [tF,h.len];simp only [dv,yD,XX];rw [XC];exact e
structure kw (x m n k:Nat)(out:List Nat)(left:Nat):Prop where
 len:out.length=n - k
 dgs:zH 65536 out
 rest:left<m
 sum:dv 65536 out*m+left=x / 65536^k
theorem kw.start (hm:0<m)(hn:(dg 65536 x).length<=n):kw x m n n [] 0:=by
 have h1:x<65536^n:=qJ (yv zf x) (qG zf hn);exact⟨zG,by intro d hd;simp at hd,hm,by simp [dv,QB h1]⟩
theorem kw.step {s:Nat}{c:List Nat}(h:kw x m n (k+1) c a)(hk:k+1<=n)(hs:s=a*65536+x / 65536^k%65536):kw x m n k (s / m::c) (s%m):=by
 have h1:x / 65536^k%65536<65536:=QA _ zf;have h3:=h.rest;have hm:0<m:=za;refine⟨by simp [h.len];omega,?_,QA _ hm,?_⟩
 ·intro d hd;rcases List.mem_cons.1 hd with rfl|hd
  ·refine(QM hm).2 ?_;have:(a+1)*65536<=m*65536:=qE _ h3;omega
  ·exact h.dgs d hd
 ·have e:=h.sum;have e2:=gi 65536 x k;have e3:=XL s m;rw [dv,QN,e2,<-e,qM,qH 65536,qB (s / m) m];omega
theorem kw.done {c:List Nat}(h:kw x m n 0 c a):dv 65536 c=x / m/\a=x%m:=by
 have e:=h.sum;have h3:=h.rest;rw [XM,Nat.div_one] at e;have hm:0<m:=za;refine⟨?_,?_⟩
 ·rw [<-e,YO,Nat.add_mul_div_right _ _ hm,QB h3,xR]
 ·rw [<-e,YO,Nat.add_mul_mod_self_right,qS h3]
theorem Tc (k:Nat):65536^(k / 16)*2^(k%16)=2^k:=by
 rw [show(65536:Nat)=2^16 from rfl,<-yL,<-xU,XL]
theorem T8 (k:Nat):2^(k%16)<=32768:=by
 have:=qG (n:=2) zf (show k%16<=15 by omega);simpa using this
def V9 (w:World)(x m:Nat)(e:Ending)(w':World):Prop:=
 ∃v:Value,e=.returned (.tuple #[v,.int .i64 ((x%m:Nat):Int)])/\vu w (x / m) (.returned v) w'
theorem drop_set (cs:Array Value)(k:Nat)(u:Value)(h:k<cs.size):(cs.setIfInBounds k u).toList.drop k=u::cs.toList.drop (k+1):=by
 rw [QL,yE (by simpa using h)];simp [List.drop_set]
theorem lI (x k:Nat):x / 65536^(k / 16) / 2^(k%16)=x / 2^k:=by rw [xB,Tc]
def nG (w:World)(x:Nat)(v:Value):Prop:=
 ∃(A:ze) (n c:Nat),v=.agg #[.slice A n c]/\zL w w.heap.size 1 A n (zt .u64 (dg 18446744073709551616 x))/\n<=c/\c<=9223372036854775807
theorem nG.below (h:nG w x v)(hb:Below w.heap.size w w'):nG w' x v:=by
 obtain⟨A,n,c,e,hr,h1,h2⟩:=h;exact⟨A,n,c,e,(hr.below hb).more hb.size,h1,h2⟩
theorem nG.drewN (h:nG w x v)(k:Nat):nG (w.drewN k) x v:=h
def Ww (w:World)(x:Nat)(e:Ending)(w':World):Prop:=∃v,e=.returned v/\nG w' x v/\Below w.heap.size w w'
theorem Ww.from_ {e:Ending}(h:Ww w1 x e w')(hb:Below w.heap.size w w1):Ww w x e w':=by
 obtain⟨v,he,hn,h3⟩:=h;exact⟨v,he,hn,hb.trans (h3.mono hb.size)⟩
