/- What this claim leans on. -/
import Derived.Test.YtdfdjfiognhbgaaGreatDoorDBunW
import Derived.Below
import Derived.Deep.AppendLies
import Derived.Deep.Draws
import Derived.Deep.QuietTactic
import Derived.Laws.MakeOwn
import Derived.Laws.OwnMore
import Derived.Laws.Rows
import Derived.Maps.AppendAt
import Derived.OwnWalk
import Derived.RegionTactic
set_option linter.unusedVariables false
set_option linter.unusedSimpArgs false
namespace Go.Proofs.YtdfdjfiognhbgaaGreatDoor
open Go Go.RowKit
set_option maxHeartbeats 16000000
variable {K:IntKind}{g:List Nat}{xs:List Value}{B a b c j k m n x y:Nat}{e:TypeId}{v:Value}{w w' w1:World}{A:ze}
theorem y8 (a:Addr)(n:Nat):(a.add n).block=a.block:=by unfold Addr.add;split<;>rfl
theorem gU (a:Addr)(i j:Nat):(a.add i).add j=a.add (i+j):=by
 unfold Addr.add;by_cases hi:i=0<;>by_cases hj:j=0<;>simp [hi,hj,xE]
def zH (w:World)(B size:Nat)(A:ze)(n:Nat)(xs:List Value):Prop:=
 xs.length=n*size/\(0<n->∃ad,A=some ad/\ad.block<B/\∀j u,xs[j]?=some u->w.cell? (ad.add j)=some u)
section
variable {w w':World}{B B' size n:Nat}{A:ze}{xs:List Value}
theorem zH.none_:zH w B size A 0 []:=⟨zE,λh=>absurd h zb⟩
theorem zH.at_ {k:Nat}(h:zH w B 1 A n xs)(hk:k<n):∃ad u,A=some ad/\ad.block<B/\xs[k]?=some u/\w.cell? (ad.add k)=some u:=by
 obtain⟨ad,e,hb,hc⟩:=h.2 zb;have hl:k<xs.length:=by have:=h.1;omega
 exact⟨ad,xs[k],e,hb,qX hl,hc k _ (qX hl)⟩
theorem zH.keep (h:zH w B size A n xs)(hk:∀p:Addr,p.block<B->w'.cell? p=w.cell? p):zH w' B size A n xs:=
 ⟨h.1,λhn=>by
  obtain⟨ad,e,hb,hc⟩:=h.2 hn;exact⟨ad,e,hb,λj u hu=>(hk _ (by rw [y8];exact hb)).trans (hc j u hu)⟩⟩
theorem zH.more (h:zH w B size A n xs)(hB:B<=B'):zH w B' size A n xs:=
 ⟨h.1,λhn=>by
  obtain⟨ad,e,hb,hc⟩:=h.2 hn;exact⟨ad,e,zb,hc⟩⟩
theorem zH.below (h:zH w B size A n xs)(hb:Below B w w'):zH w' B size A n xs:=h.keep λ_ hp=>hb.cell hp
theorem zH.drew (h:zH w B size A n xs):zH w.drew B size A n xs:=h
theorem zH.drewN (h:zH w B size A n xs)(k:Nat):zH (w.drewN k) B size A n xs:=h
theorem zH.alloc (h:zH w B size A n xs)(hB:B<=w.heap.size)(o:Obj):zH (w.alloc o) B size A n xs:=h.keep λp hp=>World.cell?_alloc_lt w o p zb
theorem zH.setCell (h:zH w B size A n xs){p:Addr}(hB:B<=p.block)(u:Value):zH (w.setCell p u) B size A n xs:=
 h.keep λq hq=>XP w p q u (λe=>by subst e;omega)
theorem zH.grown (h:zH w B size A n xs){row:Option Nat}(hg:w.grownBy w' row)(hB:B<=w.heap.size)(hr:∀g,row=some g->B<=g):zH w' B size A n xs:=
 h.keep λp hp=>World.cell?_of_block (hg.block p.block zb (λe=>by have:=hr _ e.symm;omega))
theorem zH.cut (h:zH w B size A n xs){k cap:Nat}(hk:k<=n)(hc:n<=cap):
  zH w B size (if cap=k then A else A.map (·.add (k*size))) (n - k) (xs.drop (k*size)):=by
 refine⟨by rw [XX,h.1,Nat.sub_mul],λhn=>?_⟩;obtain⟨ad,rfl,hb,a⟩:=h.2 zb;rw [if_neg zb];refine⟨ad.add (k*size),rfl,by rw [y8];exact hb,λj u hu=>?_⟩;rw [gU];exact a _ u (by rw [<-hu,YP])
theorem zH.of_own (h:w.ownsRow a e size (.slice A n c) n xs):zH w w.heap.size size A n xs:=by
 refine⟨h.1,λhn=>?_⟩;obtain⟨g,cap,hv,_,d⟩:=h.form hn;have hA:A=some ⟨g,0,none⟩:=by injection hv
 subst hA;exact⟨_,rfl,d,h.cells (g:=g) rfl⟩
end
def zh (w:World)(g:Nat)(t:TypeId)(cs:Array Value):Prop:=w.heap[g]?=some (.cells cs t (0,0))
section
variable {w w':World}{g:Nat}{t:TypeId}{cs:Array Value}
theorem zh.lt (h:zh w g t cs):g<w.heap.size:=by
 rcases xY g w.heap.size with hlt|hge
 ·exact hlt
 ·unfold zh at h;rw [Array.getElem?_eq_none hge] at h;cases h
theorem zh.cell (h:zh w g t cs)(i:Nat):w.cell? ⟨g,i,none⟩=cs[i]?:=cell_of_row w g i cs t (0,0) h
theorem zh.frozen (h:zh w g t cs)(i:Nat):w.frozen? ⟨g,i,none⟩=false:=by
 unfold zh at h;simp [World.frozen?,h]
theorem zh.new (w:World)(t:TypeId)(cs:Array Value):zh (w.alloc (.cells cs t)) w.heap.size t cs:=heap_alloc_new w _
theorem zh.drew (h:zh w g t cs):zh w.drew g t cs:=h
theorem zh.drewN (h:zh w g t cs)(n:Nat):zh (w.drewN n) g t cs:=h
theorem zh.alloc (h:zh w g t cs)(o:Obj):zh (w.alloc o) g t cs:=(Below.heap_alloc w o g h.lt).trans h
theorem zh.set_ (h:zh w g t cs)(i:Nat)(u:Value):zh (w.setCell ⟨g,i,none⟩ u) g t (cs.setIfInBounds i u):=by
 unfold zh at h⊢;simp [World.setCell,Array.getElem?_modify,h]
theorem zh.far (h:zh w g t cs){p:Addr}(hp:g≠p.block)(u:Value):zh (w.setCell p u) g t cs:=(Below.heap_setCell w p u g hp).trans h
theorem zh.below (h:zh w g t cs)(hb:Below B w w')(hg:g<B):zh w' g t cs:=(hb.block g hg).trans h
theorem zh.grown {row:Option Nat}(h:zh w g t cs)(hb:w.grownBy w' row)(hg:some g≠row):zh w' g t cs:=(hb.block g h.lt hg).trans h
theorem zh.ne_ {g':Nat}{t':TypeId}{a:Array Value}(h:zh w g t cs)(h':zh w g' t' a)(c:t≠t'):g≠g':=by
 rintro rfl;unfold zh at h h';rw [h] at h';injection h' with h';injection h' with _ ht;exact c ht
end
section
variable {P:Program}(w:World)
theorem Tp (a:Nat)(t ty e:TypeId)(i:TypeInfo)(j:Nat)(ht:P.underlying t=some (.slice e))(hi:P.info? e=some i)
  (v:Value) (n:Nat) (xs:List Value) (d:w.ownsRow a e j v n xs) (c:Nat):(Builtin.append_ #[t,t] ty #[v,.slice none 0 c]).run P w=.ok v w:=by
 rcases d.2 with⟨rfl,rfl⟩|⟨g,cap,cur,rfl,_,_,hnc,_⟩
 ·simp [Builtin.append_,run_underlying ht,sizeOf,typeInfo,hi,Builtin.lenOf,Builtin.firstCells]
 ·simp [Builtin.append_,run_underlying ht,sizeOf,typeInfo,hi,Builtin.lenOf,Builtin.firstCells,hnc,storeCells]
theorem Z9 (d:Nat)(t ty e:TypeId)(i:TypeInfo)(z:Value)(size bytes:Nat)(ht:P.underlying t=some (.slice e))(hi:P.info? e=some i)(hz:i.zero=some z)
  (y:i.size=size) (E:i.bytes=bytes) (F:z.cells.size=size) (hsz:0<size)
  (v:Value) (n:Nat) (xs:List Value) (g:w.ownsRow d e size v n xs)
  (B:Nat) (A:ze) (m c:Nat) (a:List Value) (hr:zH w B size A m a) (h1:∀u ∈ a,u.oneCell'=true)
  (D:n+m<=maxLen) (k:(n+m)*bytes<=140737488355328) (s:d<=w.heap.size):
  ∃ v' w',(Builtin.append_ #[t,t] ty #[v,.slice A m c]).run P w = .ok v' w' ∧ w'.ownsRow d e size v' (n + m) (xs ++ a) ∧ w.grownBy w' v.ownBlock ∧
   (v'.ownBlock=v.ownBlock\/v'.ownBlock=some w.heap.size):=by
 rcases A with _|ad
 ·have hm:m=0:=by
   rcases QT m with h0|h0
   ·exact h0
   ·obtain⟨ad,h,_⟩:=hr.2 h0;cases h
  subst hm;have hn:a=[]:=QY (by simpa using hr.1);subst hn;exact⟨v,w,Tp w d t ty e i size ht hi v n xs g c,by simpa using g,World.grownBy.refl w _,.inl rfl⟩
 ·have o:∀j u,a[j]?=some u->w.cell? (ad.add j)=some u:=by
   intro j u hu;rcases QT m with h0|h0
   ·subst h0;have hn:a=[]:=QY (by simpa using hr.1);subst hn;simp at hu
   ·obtain⟨ad',h,_,hc⟩:=hr.2 h0;injection h with h;subst h;exact hc j u hu
  obtain⟨v',w',C,h2,h3,_,h5⟩:=run_append_own_at (P:=P) w d t ty e i z size bytes ht hi hz y E F hsz v n xs g ad m c a hr.1 o h1 D k s;exact⟨v',w',C,h2,h3,h5⟩
theorem Yi {o:Oper}{a:Act}{K:Act->World->Prop}{Q:Exit->Act->World->Prop}(s x:Operand)(t:TypeId)
  (ho:o.op=.call {callee:=.builtin .append,args:=#[s,x],argTypes:=#[t,t]})
  (d:Nat) (e:TypeId) (i:TypeInfo) (z:Value) (size bytes:Nat) (ht:P.underlying t=some (.slice e)) (hi:P.info? e=some i) (hz:i.zero=some z)
  (y:i.size=size) (F:i.bytes=bytes) (G:z.cells.size=size) (hsz:0<size)
  (v:Value) (n:Nat) (xs:List Value) (hs:a.eval s=v) (C:w.ownsRow d e size v n xs)
  (B:Nat) (A:ze) (m c:Nat) (g:List Value) (hx:a.eval x=.slice A m c) (hr:zH w B size A m g) (h1:∀u ∈ g,u.oneCell'=true)
  (E:n+m<=maxLen) (j:(n+m)*bytes<=140737488355328) (k:d<=w.heap.size)
  (h:∀v' w',w'.ownsRow d e size v' (n+m) (xs++g)->w.grownBy w' v.ownBlock->(v'.ownBlock=v.ownBlock\/v'.ownBlock=some w.heap.size)->K (a.put o.dst v') w'):o.wp P a w K Q:=by
 obtain⟨v',w',D,h2,h3,h4⟩:=Z9 (P:=P) w d t o.type e i z size bytes ht hi hz y F G hsz v n xs C B A m c g hr h1 E j k;unfold Oper.wp execOp;simp only [ho,resolve,invoke,builtin,Sem.run_bind,Sem.run_pure,Result.andThen_ok,yI,yX,List.map_nil,hs,hx,D];exact h v' w' h2 h3 h4
theorem cJ {D:Array Oper}{rest:List Oper}{o:Oper}{a:Act}{Q:Exit->Act->World->Prop}(G:o.guard=none)(s x:Operand)(t:TypeId)
  (ho:o.op=.call {callee:=.builtin .append,args:=#[s,x],argTypes:=#[t,t]})
  (d:Nat) (e:TypeId) (i:TypeInfo) (z:Value) (size bytes:Nat) (ht:P.underlying t=some (.slice e)) (hi:P.info? e=some i) (hz:i.zero=some z)
  (y:i.size=size) (F:i.bytes=bytes) (H:z.cells.size=size) (hsz:0<size)
  (v:Value) (n:Nat) (xs:List Value) (hs:a.eval s=v) (C:w.ownsRow d e size v n xs)
  (B:Nat) (A:ze) (m c:Nat) (g:List Value) (hx:a.eval x=.slice A m c) (hr:zH w B size A m g) (h1:∀u ∈ g,u.oneCell'=true)
  (E:n+m<=maxLen) (j:(n+m)*bytes<=140737488355328) (k:d<=w.heap.size)
  (h:∀v' w',w'.ownsRow d e size v' (n+m) (xs++g)->w.grownBy w' v.ownBlock->(v'.ownBlock=v.ownBlock\/v'.ownBlock=some w.heap.size)->wpList P D Q rest (a.put o.dst v') w'):wpList P D Q (o::rest) a w:=
 wpList_plain G λ_ hK=>Yi w s x t ho d e i z size bytes ht hi hz y F H hsz v n xs hs C B A m c g hx hr h1 E j k λv' w' h2 h3 h4=>hK _ _ (h v' w' h2 h3 h4)
theorem Ye {D:Array Oper}{o:Oper}{a:Act}{K:Act->World->Prop}{Q:Exit->Act->World->Prop}{E:Prop}(H:o.guard=none)(s x:Operand)(t:TypeId)
  (ho:o.op=.call {callee:=.builtin .append,args:=#[s,x],argTypes:=#[t,t]})
  (d:Nat) (e:TypeId) (i:TypeInfo) (z:Value) (size bytes:Nat) (ht:P.underlying t=some (.slice e)) (hi:P.info? e=some i) (hz:i.zero=some z)
  (y:i.size=size) (G:i.bytes=bytes) (I:z.cells.size=size) (hsz:0<size)
  (v:Value) (n:Nat) (xs:List Value) (hs:a.eval s=v) (C:w.ownsRow d e size v n xs)
  (B:Nat) (A:ze) (m c:Nat) (g:List Value) (hx:a.eval x=.slice A m c) (hr:zH w B size A m g) (h1:∀u ∈ g,u.oneCell'=true)
  (F:n+m<=maxLen) (j:(n+m)*bytes<=140737488355328) (k:d<=w.heap.size)
  (h:∀v' w',w'.ownsRow d e size v' (n+m) (xs++g)->w.grownBy w' v.ownBlock->(v'.ownBlock=v.ownBlock\/v'.ownBlock=some w.heap.size)->K (a.put o.dst v') w'):
  if Region.wanted o (yielded D a.tmps)=true then Oper.wp P o a w K Q else E:=by
 have hw:Region.wanted o (yielded D a.tmps)=true:=by simp [Region.wanted,H]
 rw [if_pos hw];exact Yi w s x t ho d e i z size bytes ht hi hz y G I hsz v n xs hs C B A m c g hx hr h1 F j k h
end
theorem wT (w:World)(u:Value)(t:TypeId):∀(j:Nat) (u':Value),[u][j]?=some u'->(w.alloc (.cells #[u] t)).cell? ((⟨w.heap.size,0,none⟩:Addr).add j)=some u':=by
 intro j u' hj
 match j,hj with
 |0,hj=>simp at hj;subst hj;simp [Addr.add]
theorem jC (k:IntKind)(z:Int):∀u ∈ [Value.int k z],u.oneCell'=true:=by intro u hu;simp at hu;subst hu;rfl
theorem Zs {a b:Int}(h:a=b):Ending.returned (.int .i64 a)=.returned (.int .i64 b):=by rw [h]
theorem lS {P:Program}{f:FuncId}{args:Array Value}
  (h:Calls P f args (w.drewN n) λe w'=>e=.returned v/\w.drewN n=w'):Calls P f args (w.drewN n) λe a=>e=.returned v/\∃m,a=w.drewN m:=
 h.mono λ_ _ ⟨he,hm⟩=>⟨he,n,hm.symm⟩
def sm (w:World)(n:Nat)(xs:List Value)(e:Ending)(w':World):Prop:=
 ∃(A:ze) (c:Nat),e=.returned (.slice A n c)/\zH w' w'.heap.size 1 A n xs/\n<=c/\(c<=9223372036854775807/\∀ad,A=some ad->w.heap.size<=ad.block)/\Below w.heap.size w w'
theorem aS (h:w.ownsRow a e 1 v n xs):
  ∃(A:ze) (c:Nat),v=.slice A n c/\zH w w.heap.size 1 A n xs/\n<=c/\c<=9223372036854775807/\∀ad,A=some ad->a<=ad.block:=by
 have h2:=h.2;rcases h2 with⟨rfl,rfl⟩|⟨g,cap,cur,rfl,hbg,_,hnc,hcm,_⟩
 ·exact⟨none,0,rfl,zH.of_own h,qY _,zb,by intro ad e;cases e⟩
 ·exact⟨some ⟨g,0,none⟩,cap,rfl,zH.of_own h,hnc,by unfold maxLen at hcm;omega,by intro ad e;cases e;exact hbg⟩
theorem cL {t:TypeId}(h:w'.ownsRow w.heap.size t 1 v n xs)(hb:Below w.heap.size w w'):sm w n xs (.returned v) w':=by
 obtain⟨A,c,rfl,hr,h1,h2,h3⟩:=aS h;exact⟨A,c,rfl,hr,h1,⟨h2,h3⟩,hb⟩
theorem sm.from_ {e:Ending}(h:sm w1 n xs e w')(hb:Below w.heap.size w w1):sm w n xs e w':=by
 obtain⟨A,c,rfl,hr,h1,⟨h2,h3⟩,h4⟩:=h;exact⟨A,c,rfl,hr,h1,⟨h2,λad e=>qL hb.size (h3 ad e)⟩,hb.trans (h4.mono hb.size)⟩
theorem _root_.Go.World.ownsRow.drewN_ (h:w.ownsRow a e c v n xs)(k:Nat):(w.drewN k).ownsRow a e c v n xs:=h
theorem P2 {size:Nat}(h:w.ownsRow a e size v n xs)(hb:Below w.heap.size w w'):w'.ownsRow a e size v n xs:=by
 refine⟨h.1,?_⟩;rcases h.2 with hn|⟨g,cap,cur,rfl,hbg,hg,rest⟩
 ·exact .inl hn
 ·refine .inr ⟨g,cap,cur,rfl,hbg,?_,rest⟩;rw [hb.block g (Array.getElem?_eq_some_iff.1 hg).1];exact hg
theorem un {a:World}(h:Below B a w)(n:Nat):Below B a (w.drewN n):=⟨h.os,h.tape,h.output,h.size,h.block⟩
theorem T6 {P:Program}(t t2 ty e e2:TypeId)(ht:P.underlying t=some (.slice e))(a:P.underlying t2=some (.slice e2))(args:Array Value)(w:World):
  (Builtin.append_ #[t,t2] ty args).run P w=(Builtin.append_ #[t,t] ty args).run P w:=by
 unfold Builtin.append_;rcases h0:args[0]? with _|s
 ·simp
 ·rcases h1:args[1]? with _|x
  ·simp
  ·cases s<;>simp [run_underlying ht,run_underlying a]
theorem To {P:Program}(w:World){E:Array Oper}{rest:List Oper}{o:Oper}{a:Act}{Q:Exit->Act->World->Prop}(H:o.guard=none)(s x:Operand)(t t2:TypeId)
  (ho:o.op=.call {callee:=.builtin .append,args:=#[s,x],argTypes:=#[t,t2]})
  (d:Nat) (e e2:TypeId) (i:TypeInfo) (z:Value) (size bytes:Nat) (ht:P.underlying t=some (.slice e)) (I:P.underlying t2=some (.slice e2)) (hi:P.info? e=some i) (hz:i.zero=some z)
  (y:i.size=size) (G:i.bytes=bytes) (J:z.cells.size=size) (hsz:0<size)
  (v:Value) (n:Nat) (xs:List Value) (hs:a.eval s=v) (C:w.ownsRow d e size v n xs)
  (B:Nat) (A:ze) (m c:Nat) (g:List Value) (hx:a.eval x=.slice A m c) (hr:zH w B size A m g) (h1:∀u ∈ g,u.oneCell'=true)
  (F:n+m<=maxLen) (j:(n+m)*bytes<=140737488355328) (k:d<=w.heap.size)
  (h:∀v' w',w'.ownsRow d e size v' (n+m) (xs++g)->w.grownBy w' v.ownBlock->(v'.ownBlock=v.ownBlock\/v'.ownBlock=some w.heap.size)->wpList P E Q rest (a.put o.dst v') w'):wpList P E Q (o::rest) a w:=
 wpList_plain H λK hK=>by
  obtain⟨v',w',D,h2,h3,h4⟩:=Z9 (P:=P) w d t o.type e i z size bytes ht hi hz y G J hsz v n xs C B A m c g hr h1 F j k;unfold Oper.wp execOp;simp only [ho,resolve,invoke,builtin,Sem.run_bind,Sem.run_pure,Result.andThen_ok,yI,yX,List.map_nil,hs,hx,T6 t t2 o.type e e2 ht I,D];exact hK _ _ (h v' w' h2 h3 h4)
theorem SU (w:World)(u u2:Value)(t:TypeId):∀(j:Nat) (u':Value),[u,u2][j]?=some u'->(w.alloc (.cells #[u,u2] t)).cell? ((⟨w.heap.size,0,none⟩:Addr).add j)=some u':=by
 intro j u' hj
 match j,hj with
 |0,hj=>simp at hj;subst hj;simp [Addr.add]
 |1,hj=>simp at hj;subst hj;simp [Addr.add]
theorem P7 (k:IntKind)(y z:Int):∀u ∈ [Value.int k y,Value.int k z],u.oneCell'=true:=by
 intro u hu;simp at hu;rcases hu with rfl|rfl<;>rfl
theorem tH {P:Program}(t e:TypeId)(i:TypeInfo)(z:Value)(ht:P.underlying t=some (.slice e))(hi:P.info? e=some i)(hz:i.zero=some z)
  (kl kc:IntKind) (n c:Nat) (hnc:n<=c) (hbytes:i.bytes*c<=281474976710656) (h63:c<=9223372036854775807) (w:World):
  (Instr.makeSlice t (.int kl (n:Int)) (.int kc (c:Int))).run P w=.ok (.slice (some ⟨w.heap.size,0,none⟩) n c) (w.alloc (.cells (madeCells z.cells (c*i.size)) e)):=by
 have hb:(i.bytes:Int)*(c:Int)<=281474976710656:=by
  have h:((i.bytes*c:Nat):Int)<=281474976710656:=zb;rwa [QN] at h
 have hr:=run_make (P:=P) w t e i z ht hi hz kl kc n c zb zb hb zb;simp only [Int.toNat_natCast] at hr;exact hr
def dv (b:Nat):List Nat->Nat
 |[]=>0
 |d::l=>d+b*dv b l
def zD (b:Nat)(l:List Nat):Prop:=∀d ∈ l,d<b
def kC (b:Nat):Nat->Nat->List Nat
 |0,_=>[]
 |f+1,x=>if x=0 then [] else x%b::kC b f (x / b)
def dg (b x:Nat):List Nat:=kC b x x
theorem Xw:∀(b f g x:Nat),2<=b->x<=f->x<=g->kC b f x=kC b g x
 |b,0,g,x,_,h,_=>by
   have:x=0:=zb;subst this;cases g<;>simp [kC]
 |b,f+1,0,x,_,_,h=>by
   have:x=0:=zb;subst this;simp [kC]
 |b,f+1,g+1,x,hb,h1,h2=>by
   unfold kC
   split
   ·rfl
   ·rename_i hx
    have:x / b<x:=Nat.div_lt_self zb zb;rw [Xw b f g (x / b) hb zb zb]
theorem pV (b:Nat):dg b 0=[]:=rfl
theorem kf (hb:2<=b)(hx:x≠0):dg b x=x%b::dg b (x / b):=by
 obtain⟨y,rfl⟩:∃y,x=y+1:=⟨x - 1,zb⟩;unfold dg;rw [kC,if_neg hx];have:(y+1) / b<y+1:=Nat.div_lt_self zb zb;rw [Xw b y ((y+1) / b) _ hb zb (qY _)]
theorem ZR (hb:2<=b){P:Nat->Prop}(h0:P 0)(hs:∀x,x≠0->P (x / b)->P x)(x:Nat):P x:=by
 induction x using Nat.strongRecOn with
 |ind x ih=>
   by_cases hx:x=0
   ·subst hx;exact h0
   ·exact hs x hx (ih _ (Nat.div_lt_self zb zb))
theorem vf {b:Nat}(hb:2<=b)(x:Nat):dv b (dg b x)=x:=by
 refine ZR hb (P:=λx=>dv b (dg b x)=x) rfl (λx hx ih=>?_) x;rw [kf hb hx,dv,ih];exact XS x b
theorem vV {b:Nat}(hb:2<=b)(x:Nat):zD b (dg b x):=by
 refine ZR hb (P:=λx=>zD b (dg b x)) (by intro d hd;simp [pV] at hd) (λx hx ih=>?_) x;rw [kf hb hx];intro d hd;rcases List.mem_cons.1 hd with rfl|hd
 ·exact QH _ zb
 ·exact ih d hd
theorem uO (b:Nat):∀(l m:List Nat),dv b (l++m)=dv b l+b^l.length*dv b m
 |[],m=>by simp [dv]
 |d::l,m=>by
   rw [YD,dv,dv,uO b l m,xP,qP,qC,xE,qS (b^l.length) b,qG]
theorem zD.append {l m:List Nat}(hl:zD b l)(hm:zD b m):zD b (l++m):=by
 intro d hd;rcases List.mem_append.1 hd with h|h
 ·exact hl d h
 ·exact hm d h
theorem zD.take {l:List Nat}(hl:zD b l)(k:Nat):zD b (l.take k):=λd hd=>hl d (XY hd)
theorem zD.drop {l:List Nat}(hl:zD b l)(k:Nat):zD b (l.drop k):=λd hd=>hl d (XD hd)
theorem zD.getD {l:List Nat}(hl:zD b l)(hb:0<b)(k:Nat):l.getD k 0<b:=by
 by_cases hk:k<l.length
 ·exact hl _ (by rw [qQ,qX hk];exact xS hk)
 ·rw [qQ,QG zb];exact hb
theorem zD.zeros (hb:0<b)(n:Nat):zD b (List.replicate n 0):=by
 intro d hd;rw [List.eq_of_mem_replicate hd];exact hb
theorem jB (b:Nat):∀n,dv b (List.replicate n 0)=0
 |0=>rfl
 |n+1=>by rw [List.replicate_succ,dv,jB b n];simp
theorem vg {b:Nat}:∀{l:List Nat},zD b l->dv b l<b^l.length
 |[],_=>by simp [dv]
 |d::l,h=>by
   have h1:=h d zE;have h2:=vg (l:=l) (λe he=>h e (by simp [he]));rw [dv,xP,qP,qS (b^l.length) b];have:b*(dv b l+1)<=b*b^l.length:=QB b h2;rw [qC] at this;omega
theorem vA (b:Nat)(l:List Nat)(d:Nat):dv b (l++[d])=dv b l+b^l.length*d:=by rw [uO];simp [dv]
theorem vT (b:Nat)(l:List Nat)(k:Nat):dv b (l.take (k+1))=dv b (l.take k)+b^k*l.getD k 0:=by
 by_cases h:k<l.length
 ·rw [qE h,vA,qB,xZ zb];simp [List.getD,qX h]
 ·rw [qU zb,qU zb,qQ,QG zb];simp
theorem Vx (b:Nat)(l:List Nat)(k:Nat)(hk:k<=l.length):dv b l=dv b (l.take k)+b^k*dv b (l.drop k):=by
 have h:=uO b (l.take k) (l.drop k);rw [YO,qB,xZ hk] at h;exact h
theorem UG (hb:0<b){l:List Nat}(h:zD b l)(k:Nat):dv b (l.take k)=dv b l%b^k:=by
 by_cases hk:k<=l.length
 ·have h2:=vg (h.take k);rw [qB,xZ hk] at h2;rw [Vx b l k hk,XI];exact(qO h2).symm
 ·rw [qU zb];have h2:=vg h;exact(qO (qJ h2 (qV hb zb))).symm
theorem iM {b:Nat}(hb:0<b){l:List Nat}(h:zD b l)(k:Nat):dv b (l.drop k)=dv b l / b^k:=by
 by_cases hk:k<=l.length
 ·have h2:=vg (h.take k);rw [qB,xZ hk] at h2;rw [Vx b l k hk,Nat.add_mul_div_left _ _ (XH hb),QL h2,xA]
 ·rw [xG zb];have h2:=vg h;exact(QL (qJ h2 (qV hb zb))).symm
theorem kh (hb:0<b){l:List Nat}(h:zD b l)(k:Nat):l.getD k 0=dv b l / b^k%b:=by
 have h1:=iM hb h k;rw [<-h1];by_cases hk:k<l.length
 ·rw [yC hk,dv,XI,qQ,qX hk];exact(qO (h _ (xS hk))).symm
 ·rw [xG zb,qQ,QG zb];simp [dv]
def oT (l:List Nat):Prop:=l≠[]->l.getD (l.length - 1) 0≠0
theorem oT.nil:oT []:=λh=>absurd rfl h
theorem oT.tail {d:Nat}{l:List Nat}(h:oT (d::l)):oT l:=by
 intro hl;have h2:=h zE;have hp:0<l.length:=List.length_pos_iff.2 hl;rw [xP,show l.length+1 - 1=(l.length - 1)+1 from by omega] at h2;simpa using h2
theorem jb (hb:2<=b)(x:Nat):oT (dg b x):=by
 refine ZR hb (P:=λx=>oT (dg b x)) oT.nil (λx hx ih=>?_) x;rw [kf hb hx];intro _;by_cases h:dg b (x / b)=[]
 ·rw [h];have h0:=vf hb (x / b);rw [h] at h0;have a:x<b:=by
   rcases xY x b with h2|h2
   ·exact h2
   ·have:=Nat.div_pos h2 zb;simp [dv] at h0;omega
  simp [qO a];exact hx
 ·have hp:0<(dg b (x / b)).length:=List.length_pos_iff.2 h;rw [xP,show(dg b (x / b)).length+1 - 1=((dg b (x / b)).length - 1)+1 from by omega];simpa using ih h
theorem rf {b:Nat}(hb:2<=b):∀{l:List Nat},zD b l->oT l->l=dg b (dv b l)
 |[],_,_=>rfl
 |d::l,h,hn=>by
   have h1:=h d zE;have h0:zD b l:=λe he=>h e (by simp [he]);have e:=rf hb h0 hn.tail;have c:dv b (d::l)≠0:=by
    rw [dv];intro hz;have hd:d=0:=zb;have hl:b*dv b l=0:=zb;have a:dv b l=0:=by
     rcases Nat.mul_eq_zero.1 hl with h|h
     ·omega
     ·exact h
    rw [a,pV] at e;subst e;subst hd;exact hn zE zE
   rw [kf hb c,dv,XI,qO h1,Nat.add_mul_div_left _ _ zb,QL h1,xA,<-e]
theorem kE {b:Nat}(hb:2<=b)(x:Nat)(hx:x≠0):1<=(dg b x).length/\b^((dg b x).length - 1)<=x:=by
 have a:dg b x≠[]:=by rw [kf hb hx];simp
 have hp:=List.length_pos_iff.2 a;refine⟨hp,?_⟩;have hn:=jb hb x a;rw [kh zb (vV hb x),vf hb] at hn;rcases xY x (b^((dg b x).length - 1)) with h|h
 ·rw [QL h] at hn;simp at hn
 ·exact h
theorem ym {b:Nat}(hb:2<=b)(x:Nat):x<b^(dg b x).length:=by
 have:=vg (vV hb x);rwa [vf hb] at this
theorem wy {b:Nat}(hb:2<=b)(x n:Nat)(h:x<b^n):(dg b x).length<=n:=by
 by_cases hx:x=0
 ·subst hx;simp [pV]
 ·have h2:=kE hb x hx;have:b^((dg b x).length - 1)<b^n:=QU h2.2 h;have:=(Nat.pow_lt_pow_iff_right zb).1 this;omega
theorem tm {b:Nat}(hb:2<=b){x y:Nat}(h:x<=y):(dg b x).length<=(dg b y).length:=wy hb _ _ (QU h (ym hb y))
theorem kK {b:Nat}(hb:2<=b){x y:Nat}(h:dg b x=dg b y):x=y:=by rw [<-vf hb x,h,vf hb]
theorem Va (b:Nat){l:List Nat}{n:Nat}(hn:n<l.length)(h:l.getD n 0=0):dv b (l.take (n+1))=dv b (l.take n):=by
 have _:=hn;rw [vT,h];simp
theorem UD (hb:2<=b){l:List Nat}{n:Nat}(h:zD b l)(hn:n<=l.length)(hv:dv b (l.take n)=dv b l)(hz:n=0\/l.getD (n - 1) 0≠0):l.take n=dg b (dv b l):=by
 rw [<-hv];refine rf hb (h.take n) ?_;intro a;rw [qB,xZ hn];rcases hz with rfl|hz
 ·simp at a
 ·by_cases h0:n=0
  ·subst h0;simp at a
  ·rw [qQ,XO,if_pos zb,<-qQ];exact hz
theorem jT (b x j:Nat):x / b^j=b*(x / b^(j+1))+x / b^j%b:=by
 rw [qP,<-xD];exact(XK _ _).symm
theorem sX {b:Nat}(h:x / b^(j+1)=y / b^(j+1))(hd:x / b^j%b=y / b^j%b):x / b^j=y / b^j:=by
 rw [jT b x j,jT b y j,h,hd]
theorem fJ {b:Nat}(h:x / b^(j+1)=y / b^(j+1))(hd:x / b^j%b<y / b^j%b):x<y:=by
 have h1:=jT b x j;have h2:=jT b y j;rw [h] at h1;rcases xY x y with hl|hl
 ·exact hl
 ·have:=Nat.div_le_div_right (c:=b^j) hl;omega
theorem jU {b:Nat}(hb:2<=b){x y:Nat}(h:(dg b x).length<(dg b y).length):x<y:=by
 rcases xY x y with hl|hl
 ·exact hl
 ·have:=tm hb hl;omega
theorem fm (i:Nat):(65536:Nat)^(4*i)=18446744073709551616^i:=by rw [yG]
theorem kZ (b y s:Nat):y%b^(s+1)=y%b+b*(y / b%b^s):=by rw [qP,qS (b^s) b,Nat.mod_mul]
theorem vO (b x k:Nat):x%b^(k+1)=x%b^k+b^k*(x / b^k%b):=by rw [qP,Nat.mod_mul]
theorem me {D:List Nat}{v w i:Nat}(a:D.length=4*i+k)(hv:dv 65536 D=v+18446744073709551616^i*(w%65536^k)):
  dv 65536 (D++[w / 65536^k%65536])=v+18446744073709551616^i*(w%65536^(k+1)):=by
 rw [vA,hv,a,vO 65536 w k,qC,xX,fm,qG,xE]
theorem Ol (x t s:Nat):x / 65536^(t+1)%65536^s*65536+x / 65536^t%65536=x / 65536^t%65536^(s+1):=by
 rw [kZ 65536 (x / 65536^t) s,xD,<-qP,qS,YG]
structure lf (x j:Nat)(L:List Nat):Prop where
 len:L.length=j
 dgs:zD 18446744073709551616 L
 val:dv 18446744073709551616 L=x%18446744073709551616^j
theorem lf.start (x:Nat):lf x 0 []:=⟨rfl,by intro d hd;simp at hd,by simp [dv,xT]⟩
theorem lf.step {L:List Nat}(h:lf x j L):lf x (j+1) (L++[x / 65536^(4*j)%65536^4]):=by
 refine⟨by simp [h.len],h.dgs.append (by intro d hd;simp at hd;subst hd;exact QH _ zg),?_⟩;rw [vA,h.val,h.len,fm,show(65536:Nat)^4=18446744073709551616 from by decide,<-vO]
theorem lf.done {L:List Nat}(h:lf x j L)(hlo:j=0\/4*(j - 1)<(dg 65536 x).length)(d:(dg 65536 x).length<=4*j):L=dg 18446744073709551616 x:=by
 have hx:x<18446744073709551616^j:=by
  rw [<-fm];exact qJ (ym zg x) (qV zg d)
 have hv:dv 18446744073709551616 L=x:=by rw [h.val,qO hx]
 conv=>rhs;rw [<-hv]
 refine rf zg h.dgs ?_;intro g;have hj:j≠0:=by
  rintro rfl;exact g (List.length_eq_zero_iff.1 h.len)
 obtain⟨i,rfl⟩:∃i,j=i+1:=⟨j - 1,zb⟩;rw [kh zg h.dgs,hv,h.len];have a:4*i<(dg 65536 x).length:=zb;have k:x≠0:=by rintro rfl;simp [pV] at a
 have c:18446744073709551616^i<=x:=by
  rw [<-fm];exact qL (qV zg zb) (kE zg x k).2
 have h1:0<x / 18446744073709551616^(i+1 - 1):=Nat.div_pos (by simpa using c) (XH zg);have h2:x / 18446744073709551616^(i+1 - 1)<18446744073709551616:=by
  rw [Nat.add_sub_cancel];refine(QP (XH zg)).2 ?_;rw [qS,<-qP];exact hx
 rw [qO h2];omega
def zq (k:IntKind)(l:List Nat):List Value:=l.map λd:Nat=>Value.int k (d:Int)
theorem wt (k:IntKind)(l:List Nat):(zq k l).length=l.length:=by simp [zq]
theorem tJ (k:IntKind)(l m:List Nat):zq k (l++m)=zq k l++zq k m:=by simp [zq]
theorem WN (k:IntKind)(l:List Nat)(n:Nat):(zq k l).take n=zq k (l.take n):=by simp [zq]
theorem Oc (k:IntKind)(l:List Nat)(n:Nat):(zq k l).drop n=zq k (l.drop n):=by simp [zq]
theorem jF (k:IntKind)(l:List Nat):∀u ∈ zq k l,u.oneCell'=true:=by
 intro u hu;obtain⟨d,_,rfl⟩:=List.mem_map.1 hu;rfl
theorem wB {l:List Nat}(hr:zH w B 1 A n (zq K l)){k:Nat}(hk:k<n):∃ad:Addr,A=some ad/\ad.block<B/\w.cell? (ad.add k)=some (.int K (l.getD k 0:Nat)):=by
 have hlen:l.length=n:=by have:=hr.1;rw [wt] at this;omega
 obtain⟨ad,u,e,hb,hu,hc⟩:=hr.at_ hk;refine⟨ad,e,hb,hc.trans ?_⟩;rw [qQ,qX zb];simp only [zq,QQ,qX (show k<l.length by omega),Option.map_some,Option.some.injEq] at hu;rw [<-hu];rfl
theorem zH.len_ {l:List Nat}(hr:zH w B 1 A n (zq K l)):l.length=n:=by
 have:=hr.1;rw [wt] at this;omega
theorem zH.take_ (hr:zH w B 1 A n xs)(hk:k<=n):zH w B 1 A k (xs.take k):=by
 have h1:=hr.1;refine⟨by rw [qB];omega,λh=>?_⟩;obtain⟨ad,e,hb,hc⟩:=hr.2 zb;refine⟨ad,e,hb,λj u hu=>hc j u ?_⟩;rw [XO] at hu
 split at hu
 ·exact hu
 ·cases hu
def zB (w:World)(x:Nat)(A:ze)(n c:Nat):Prop:=
 zH w w.heap.size 1 A n (zq .i64 (dg 65536 x))/\n<=c/\c<=9223372036854775807
def vc (w:World)(x:Nat):Ending->World->Prop:=sm w (dg 65536 x).length (zq .i64 (dg 65536 x))
theorem zB.len (h:zB w x A n c):n=(dg 65536 x).length:=h.1.len_.symm
theorem zB.below (h:zB w x A n c)(hb:Below w.heap.size w w'):zB w' x A n c:=
 ⟨(h.1.below hb).more hb.size,h.2⟩
theorem vc.elim {e:Ending}(h:vc w x e w'):∃(A:ze) (n c:Nat),e=.returned (.slice A n c)/\zB w' x A n c/\Below w.heap.size w w':=by
 obtain⟨A,c,rfl,hr,h1,⟨h2,_⟩,h3⟩:=h;exact⟨A,_,c,rfl,⟨hr,h1,h2⟩,h3⟩
theorem vc.from_ {e:Ending}(h:vc w1 x e w')(hb:Below w.heap.size w w1):vc w x e w':=sm.from_ h hb
def z7 (x y:Nat):Int:=if x<y then -1 else if x=y then 0 else 1
theorem tn (h:x<y):z7 x y= -1:=if_pos h
theorem sf (h:y<x):z7 x y=1:=by unfold z7;rw [if_neg zb,if_neg zb]
theorem lh {x y:Nat}(h:x=y):z7 x y=0:=by unfold z7;rw [if_neg zb,if_pos h]
theorem oj (x j:Nat):(dg 65536 x).getD j 0=x / 65536^j%65536:=by rw [kh zg (vV zg x),vf zg]
def kv (w:World)(x:Nat):Ending->World->Prop:=sm w (dg 18446744073709551616 x).length (zq .u64 (dg 18446744073709551616 x))
structure ll (x y k:Nat)(out:List Nat)(c:Nat):Prop where
 len:out.length=k
 dgs:zD 65536 out
 carry:c<=1
 sum:x%65536^k+y%65536^k=dv 65536 out+65536^k*c
theorem ll.start (x y:Nat):ll x y 0 [] 0:=⟨rfl,by intro d hd;simp at hd,zb,by simp [dv,xT]⟩
theorem ll.step {s:Nat}{a:List Nat}(h:ll x y k a c)(hs:s=x / 65536^k%65536+y / 65536^k%65536+c):ll x y (k+1) (a++[s%65536]) (s / 65536):=by
 have h1:x / 65536^k%65536<65536:=QH _ zg;have h2:y / 65536^k%65536<65536:=QH _ zg;have h3:=h.carry;refine⟨by simp [h.len],h.dgs.append (by intro d hd;simp at hd;subst hd;omega),zb,?_⟩;have e:=h.sum;rw [vO 65536 x k,vO 65536 y k,vA,h.len,qP,qG,xE (dv 65536 a),<-qC,XS,hs,qC,qC];omega
theorem ll.done {a:List Nat}(h:ll x y k a 0)(hx:(dg 65536 x).length<=k)(hy:(dg 65536 y).length<=k):dv 65536 a=x+y:=by
 have e:=h.sum;have h1:x<65536^k:=qJ (ym zg x) (qV zg hx);have h2:y<65536^k:=qJ (ym zg y) (qV zg hy);rw [qO h1,qO h2] at e;omega
structure lp (x y k:Nat)(out:List Nat)(c:Nat):Prop where
 len:out.length=k
 dgs:zD 65536 out
 lack:c<=1
 sum:dv 65536 out+y%65536^k=x%65536^k+65536^k*c
theorem lp.start (x y:Nat):lp x y 0 [] 0:=⟨rfl,by intro d hd;simp at hd,zb,by simp [dv,xT]⟩
theorem lp.step {d c':Nat}{a:List Nat}(h:lp x y k a c)(hd:d<65536)(hc:c'<=1)(hs:d+y / 65536^k%65536+c=x / 65536^k%65536+65536*c'):lp x y (k+1) (a++[d]) c':=by
 refine⟨by simp [h.len],h.dgs.append (by intro e he;simp at he;subst he;exact hd),hc,?_⟩;have e:=h.sum;have e2:65536^k*d+65536^k*(y / 65536^k%65536)+65536^k*c=65536^k*(x / 65536^k%65536)+65536^k*(65536*c'):=by
  rw [<-qC,<-qC,hs,qC]
 rw [vO 65536 x k,vO 65536 y k,vA,h.len,qP,qG (65536^k) 65536 c'];omega
theorem lp.done {a:List Nat}(h:lp x y k a c)(d:y<=x)(hx:(dg 65536 x).length<=k):dv 65536 a=x - y:=by
 have e:=h.sum;have h1:x<65536^k:=qJ (ym zg x) (qV zg hx);have h3:=vg h.dgs;rw [h.len] at h3;rw [qO h1,qO (QU d h1)] at e;have h4:=h.lack;have:c=0\/c=1:=zb;rcases this with rfl|rfl<;>omega
structure lc (x m a k:Nat)(out:List Nat)(c:Nat):Prop where
 len:out.length=k
 dgs:zD 65536 out
 carry:c<65536
 sum:dv 65536 out+65536^k*c=x%65536^k*m+a
theorem lc.start (x m a:Nat)(ha:a<65536):lc x m a 0 [] a:=⟨rfl,by intro d hd;simp at hd,ha,by simp [dv,xT]⟩
theorem lc.step {s:Nat}(h:lc x m a k g c)(hm:m<65536)(hs:s=x / 65536^k%65536*m+c):lc x m a (k+1) (g++[s%65536]) (s / 65536):=by
 have h1:x / 65536^k%65536<65536:=QH _ zg;have h2:x / 65536^k%65536*m<=65535*65535:=Nat.mul_le_mul zb zb;have h3:=h.carry;refine⟨by simp [h.len],h.dgs.append (by intro d hd;simp at hd;subst hd;omega),zb,?_⟩;have e:=h.sum;have e2:65536^k*(s%65536)+65536^k*(65536*(s / 65536))=65536^k*s:=by rw [<-qC,XS]
 have e3:65536^k*s=65536^k*(x / 65536^k%65536)*m+65536^k*c:=by rw [hs,qC,qG]
 rw [vA,h.len,qP,qG (65536^k) 65536,<-qP,vO 65536 x k,QE];omega
theorem lc.done (h:lc x m a k g c)(hx:(dg 65536 x).length<=k):dv 65536 (g++[c%65536,c / 65536])=x*m+a/\zD 65536 (g++[c%65536,c / 65536]):=by
 have e:=h.sum;have h1:x<65536^k:=qJ (ym zg x) (qV zg hx);rw [qO h1] at e;have h3:=h.carry;refine⟨?_,h.dgs.append (by intro d hd;simp at hd;rcases hd with rfl|rfl<;>omega)⟩;rw [uO,h.len];simp only [dv,yZ,xN];rw [XS];exact e
structure lj (x m n k:Nat)(out:List Nat)(left:Nat):Prop where
 len:out.length=n - k
 dgs:zD 65536 out
 rest:left<m
 sum:dv 65536 out*m+left=x / 65536^k
theorem lj.start (hm:0<m)(hn:(dg 65536 x).length<=n):lj x m n n [] 0:=by
 have h1:x<65536^n:=qJ (ym zg x) (qV zg hn);exact⟨zE,by intro d hd;simp at hd,hm,by simp [dv,QL h1]⟩
theorem lj.step {s:Nat}{c:List Nat}(h:lj x m n (k+1) c a)(hk:k+1<=n)(hs:s=a*65536+x / 65536^k%65536):lj x m n k (s / m::c) (s%m):=by
 have h1:x / 65536^k%65536<65536:=QH _ zg;have h3:=h.rest;have hm:0<m:=zb;refine⟨by simp [h.len];omega,?_,QH _ hm,?_⟩
 ·intro d hd;rcases List.mem_cons.1 hd with rfl|hd
  ·refine(QP hm).2 ?_;have:(a+1)*65536<=m*65536:=qW _ h3;omega
  ·exact h.dgs d hd
 ·have e:=h.sum;have e2:=jT 65536 x k;have e3:=XK s m;rw [dv,QE,e2,<-e,qC,qG 65536,qS (s / m) m];omega
theorem lj.done {c:List Nat}(h:lj x m n 0 c a):dv 65536 c=x / m/\a=x%m:=by
 have e:=h.sum;have h3:=h.rest;rw [XB,Nat.div_one] at e;have hm:0<m:=zb;refine⟨?_,?_⟩
 ·rw [<-e,YG,Nat.add_mul_div_right _ _ hm,QL h3,xA]
 ·rw [<-e,YG,Nat.add_mul_mod_self_right,qO h3]
theorem Vv (k:Nat):65536^(k / 16)*2^(k%16)=2^k:=by
 rw [show(65536:Nat)=2^16 from rfl,<-yG,<-xX,XK]
theorem Ur (k:Nat):2^(k%16)<=32768:=by
 have:=qV (n:=2) zg (show k%16<=15 by omega);simpa using this
def Wa (w:World)(x m:Nat)(e:Ending)(w':World):Prop:=
 ∃v:Value,e=.returned (.tuple #[v,.int .i64 ((x%m:Nat):Int)])/\vc w (x / m) (.returned v) w'
theorem drop_set (cs:Array Value)(k:Nat)(u:Value)(h:k<cs.size):(cs.setIfInBounds k u).toList.drop k=u::cs.toList.drop (k+1):=by
 rw [xH,yC (by simpa using h)];simp [List.drop_set]
theorem mD (x k:Nat):x / 65536^(k / 16) / 2^(k%16)=x / 2^k:=by rw [xD,Vv]
def oJ (w:World)(x:Nat)(v:Value):Prop:=
 ∃(A:ze) (n c:Nat),v=.agg #[.slice A n c]/\zH w w.heap.size 1 A n (zq .u64 (dg 18446744073709551616 x))/\n<=c/\c<=9223372036854775807
theorem oJ.below (h:oJ w x v)(hb:Below w.heap.size w w'):oJ w' x v:=by
 obtain⟨A,n,c,e,hr,h1,h2⟩:=h;exact⟨A,n,c,e,(hr.below hb).more hb.size,h1,h2⟩
theorem oJ.drewN (h:oJ w x v)(k:Nat):oJ (w.drewN k) x v:=h
def ZP (w:World)(x:Nat)(e:Ending)(w':World):Prop:=∃v,e=.returned v/\oJ w' x v/\Below w.heap.size w w'
theorem ZP.from_ {e:Ending}(h:ZP w1 x e w')(hb:Below w.heap.size w w1):ZP w x e w':=by
 obtain⟨v,he,hn,h3⟩:=h;exact⟨v,he,hn,hb.trans (h3.mono hb.size)⟩
