/- What this claim leans on. -/
import Derived.Test.YtghpdeciaaagnaaGreatDoorQBunW
import Derived.Below
import Derived.Deep.AppendLies
import Derived.Deep.Draws
import Derived.Deep.QuietTactic
import Derived.Laws.MakeOwn
import Derived.Laws.OwnMore
import Derived.Laws.Rows
import Derived.Maps.AppendAt
import Derived.OwnWalk
import Derived.RegionTactic
namespace Go.Proofs.YtghpdeciaaagnaaGreatDoor
open Go Go.RowKit
set_option maxHeartbeats 16000000
theorem zah (a:Addr)(n:Nat):(a.add n).block=a.block:=by unfold Addr.add;split<;>rfl
theorem zef (a:Addr)(i j:Nat):(a.add i).add j=a.add (i+j):=by
 unfold Addr.add;by_cases hi:i=0<;>by_cases hj:j=0<;>simp [hi,hj,Nat.add_assoc]
def zaw (w:World)(B size:Nat)(A:oA9)(n:Nat)(xs:List Value):Prop:=
 xs.length=n*size/\(0<n->∃ad,A=some ad/\ad.block<B/\∀j u,xs[j]?=some u->w.cell? (ad.add j)=some u)
section
variable {w w':World}{B B' size n:Nat}{A:oA9}{xs:List Value}
theorem zaw.none_:zaw w B size A 0 []:=⟨si9,λh=>absurd h om9⟩
theorem zaw.at_ {k:Nat}(h:zaw w B 1 A n xs)(hk:k<n):∃ad u,A=some ad/\ad.block<B/\xs[k]?=some u/\w.cell? (ad.add k)=some u:=by
 obtain⟨ad,e,hb,hc⟩:=h.2 om9;have hl:k<xs.length:=by have:=h.1;omega
 exact⟨ad,xs[k],e,hb,List.getElem?_eq_getElem hl,hc k _ (List.getElem?_eq_getElem hl)⟩
theorem zaw.keep (h:zaw w B size A n xs)(hk:∀p:Addr,p.block<B->w'.cell? p=w.cell? p):zaw w' B size A n xs:=
 ⟨h.1,λhn=>by
  obtain⟨ad,e,hb,hc⟩:=h.2 hn;exact⟨ad,e,hb,λj u hu=>(hk _ (by rw [zah];exact hb)).trans (hc j u hu)⟩⟩
theorem zaw.more (h:zaw w B size A n xs)(hB:B<=B'):zaw w B' size A n xs:=
 ⟨h.1,λhn=>by
  obtain⟨ad,e,hb,hc⟩:=h.2 hn;exact⟨ad,e,om9,hc⟩⟩
theorem zaw.below (h:zaw w B size A n xs)(hb:Below B w w'):zaw w' B size A n xs:=h.keep λ_ hp=>hb.cell hp
theorem zaw.drew (h:zaw w B size A n xs):zaw w.drew B size A n xs:=h
theorem zaw.drewN (h:zaw w B size A n xs)(k:Nat):zaw (w.drewN k) B size A n xs:=h
theorem zaw.alloc (h:zaw w B size A n xs)(hB:B<=w.heap.size)(o:Obj):zaw (w.alloc o) B size A n xs:=h.keep λp hp=>World.cell?_alloc_lt w o p om9
theorem zaw.setCell (h:zaw w B size A n xs){p:Addr}(hB:B<=p.block)(u:Value):zaw (w.setCell p u) B size A n xs:=
 h.keep λq hq=>World.cell?_setCell_other w p q u (λe=>by subst e;omega)
theorem zaw.grown (h:zaw w B size A n xs){row:Option Nat}(hg:w.grownBy w' row)(hB:B<=w.heap.size)(hr:∀g,row=some g->B<=g):zaw w' B size A n xs:=
 h.keep λp hp=>World.cell?_of_block (hg.block p.block om9 (λe=>by have:=hr _ e.symm;omega))
theorem zaw.cut (h:zaw w B size A n xs){k cap:Nat}(hk:k<=n)(hc:n<=cap):
  zaw w B size (if cap=k then A else A.map (·.add (k*size))) (n - k) (xs.drop (k*size)):=by
 refine⟨by rw [List.length_drop,h.1,Nat.sub_mul],λhn=>?_⟩;obtain⟨ad,rfl,hb,a⟩:=h.2 om9;rw [if_neg om9];refine⟨ad.add (k*size),rfl,by rw [zah];exact hb,λj u hu=>?_⟩;rw [zef];exact a _ u (by rw [<-hu,List.getElem?_drop])
theorem zaw.of_own {a:Nat}{e:TypeId}{c:Nat}(h:w.ownsRow a e size (.slice A n c) n xs):zaw w w.heap.size size A n xs:=by
 refine⟨h.1,λhn=>?_⟩;obtain⟨g,cap,hv,_,b⟩:=h.form hn;have hA:A=some ⟨g,0,none⟩:=by injection hv
 subst hA;exact⟨_,rfl,b,h.cells (g:=g) rfl⟩
end
def Blk (w:World)(g:Nat)(t:TypeId)(cs:Array Value):Prop:=w.heap[g]?=some (.cells cs t (0,0))
section
variable {w w':World}{g:Nat}{t:TypeId}{cs:Array Value}
theorem Blk.lt (h:Blk w g t cs):g<w.heap.size:=by
 rcases Nat.lt_or_ge g w.heap.size with hlt|hge
 ·exact hlt
 ·unfold Blk at h;rw [Array.getElem?_eq_none hge] at h;cases h
theorem Blk.cell (h:Blk w g t cs)(i:Nat):w.cell? ⟨g,i,none⟩=cs[i]?:=cell_of_row w g i cs t (0,0) h
theorem Blk.frozen (h:Blk w g t cs)(i:Nat):w.frozen? ⟨g,i,none⟩=false:=by
 unfold Blk at h;simp [World.frozen?,h]
theorem Blk.new (w:World)(t:TypeId)(cs:Array Value):Blk (w.alloc (.cells cs t)) w.heap.size t cs:=heap_alloc_new w _
theorem Blk.drew (h:Blk w g t cs):Blk w.drew g t cs:=h
theorem Blk.drewN (h:Blk w g t cs)(n:Nat):Blk (w.drewN n) g t cs:=h
theorem Blk.alloc (h:Blk w g t cs)(o:Obj):Blk (w.alloc o) g t cs:=(Below.heap_alloc w o g h.lt).trans h
theorem Blk.set_ (h:Blk w g t cs)(i:Nat)(u:Value):Blk (w.setCell ⟨g,i,none⟩ u) g t (cs.setIfInBounds i u):=by
 unfold Blk at h⊢;simp [World.setCell,Array.getElem?_modify,h]
theorem Blk.far (h:Blk w g t cs){p:Addr}(hp:g≠p.block)(u:Value):Blk (w.setCell p u) g t cs:=(Below.heap_setCell w p u g hp).trans h
theorem Blk.below {B:Nat}(h:Blk w g t cs)(hb:Below B w w')(hg:g<B):Blk w' g t cs:=(hb.block g hg).trans h
theorem Blk.grown {row:Option Nat}(h:Blk w g t cs)(hb:w.grownBy w' row)(hg:some g≠row):Blk w' g t cs:=(hb.block g h.lt hg).trans h
theorem Blk.ne_ {g':Nat}{t':TypeId}{a:Array Value}(h:Blk w g t cs)(h':Blk w g' t' a)(b:t≠t'):g≠g':=by
 rintro rfl;unfold Blk at h h';rw [h] at h';injection h' with h';injection h' with _ ht;exact b ht
end
section
variable {P:Program}(w:World)
theorem zhA (a:Nat)(t ty e:TypeId)(i:TypeInfo)(d:Nat)(ht:P.underlying t=some (.slice e))(hi:P.info? e=some i)
  (v:Value) (n:Nat) (xs:List Value) (b:w.ownsRow a e d v n xs) (c:Nat):(Builtin.append_ #[t,t] ty #[v,.slice none 0 c]).run P w=.ok v w:=by
 rcases b.2 with⟨rfl,rfl⟩|⟨g,cap,cur,rfl,_,_,hnc,_⟩
 ·simp [Builtin.append_,run_underlying ht,sizeOf,typeInfo,hi,Builtin.lenOf,Builtin.firstCells]
 ·simp [Builtin.append_,run_underlying ht,sizeOf,typeInfo,hi,Builtin.lenOf,Builtin.firstCells,hnc,storeCells]
theorem zjQ (b:Nat)(t ty e:TypeId)(i:TypeInfo)(z:Value)(size bytes:Nat)(ht:P.underlying t=some (.slice e))(hi:P.info? e=some i)(hz:i.zero=some z)
  (l:i.size=size) (s:i.bytes=bytes) (y:z.cells.size=size) (hsz:0<size)
  (v:Value) (n:Nat) (xs:List Value) (d:w.ownsRow b e size v n xs)
  (B:Nat) (A:oA9) (m c:Nat) (a:List Value) (hr:zaw w B size A m a) (h1:∀u ∈ a,u.oneCell'=true)
  (r:n+m<=maxLen) (f:(n+m)*bytes<=140737488355328) (k:b<=w.heap.size):
  ∃ v' w',(Builtin.append_ #[t,t] ty #[v,.slice A m c]).run P w = .ok v' w' ∧ w'.ownsRow b e size v' (n + m) (xs ++ a) ∧ w.grownBy w' v.ownBlock ∧
   (v'.ownBlock=v.ownBlock\/v'.ownBlock=some w.heap.size):=by
 rcases A with _|ad
 ·have hm:m=0:=by
   rcases Nat.eq_zero_or_pos m with h0|h0
   ·exact h0
   ·obtain⟨ad,h,_⟩:=hr.2 h0;cases h
  subst hm;have hn:a=[]:=List.eq_nil_of_length_eq_zero (by simpa using hr.1);subst hn;exact⟨v,w,zhA w b t ty e i size ht hi v n xs d c,by simpa using d,World.grownBy.refl w _,.inl rfl⟩
 ·have g:∀j u,a[j]?=some u->w.cell? (ad.add j)=some u:=by
   intro j u hu;rcases Nat.eq_zero_or_pos m with h0|h0
   ·subst h0;have hn:a=[]:=List.eq_nil_of_length_eq_zero (by simpa using hr.1);subst hn;simp at hu
   ·obtain⟨ad',h,_,hc⟩:=hr.2 h0;injection h with h;subst h;exact hc j u hu
  obtain⟨v',w',o,h2,h3,_,h5⟩:=run_append_own_at (P:=P) w b t ty e i z size bytes ht hi hz l s y hsz v n xs d ad m c a hr.1 g h1 r f k;exact⟨v',w',o,h2,h3,h5⟩
theorem zgH {o:Oper}{a:Act}{K:Act->World->Prop}{Q:Exit->Act->World->Prop}(s x:Operand)(t:TypeId)
  (ho:o.op=.call {callee:=.builtin .append,args:=#[s,x],argTypes:=#[t,t]})
  (b:Nat) (e:TypeId) (i:TypeInfo) (z:Value) (size bytes:Nat) (ht:P.underlying t=some (.slice e)) (hi:P.info? e=some i) (hz:i.zero=some z)
  (j:i.size=size) (y:i.bytes=bytes) (C:z.cells.size=size) (hsz:0<size)
  (v:Value) (n:Nat) (xs:List Value) (hs:a.eval s=v) (k:w.ownsRow b e size v n xs)
  (B:Nat) (A:oA9) (m c:Nat) (d:List Value) (hx:a.eval x=.slice A m c) (hr:zaw w B size A m d) (h1:∀u ∈ d,u.oneCell'=true)
  (r:n+m<=maxLen) (f:(n+m)*bytes<=140737488355328) (g:b<=w.heap.size)
  (h:∀v' w',w'.ownsRow b e size v' (n+m) (xs++d)->w.grownBy w' v.ownBlock->(v'.ownBlock=v.ownBlock\/v'.ownBlock=some w.heap.size)->K (a.put o.dst v') w'):o.wp P a w K Q:=by
 obtain⟨v',w',l,h2,h3,h4⟩:=zjQ (P:=P) w b t o.type e i z size bytes ht hi hz j y C hsz v n xs k B A m c d hr h1 r f g;unfold Oper.wp execOp;simp only [ho,resolve,invoke,builtin,Sem.run_bind,Sem.run_pure,Result.andThen_ok,List.map_toArray,List.map_cons,List.map_nil,hs,hx,l];exact h v' w' h2 h3 h4
theorem zeF {l:Array Oper}{rest:List Oper}{o:Oper}{a:Act}{Q:Exit->Act->World->Prop}(C:o.guard=none)(s x:Operand)(t:TypeId)
  (ho:o.op=.call {callee:=.builtin .append,args:=#[s,x],argTypes:=#[t,t]})
  (b:Nat) (e:TypeId) (i:TypeInfo) (z:Value) (size bytes:Nat) (ht:P.underlying t=some (.slice e)) (hi:P.info? e=some i) (hz:i.zero=some z)
  (j:i.size=size) (y:i.bytes=bytes) (D:z.cells.size=size) (hsz:0<size)
  (v:Value) (n:Nat) (xs:List Value) (hs:a.eval s=v) (k:w.ownsRow b e size v n xs)
  (B:Nat) (A:oA9) (m c:Nat) (d:List Value) (hx:a.eval x=.slice A m c) (hr:zaw w B size A m d) (h1:∀u ∈ d,u.oneCell'=true)
  (r:n+m<=maxLen) (f:(n+m)*bytes<=140737488355328) (g:b<=w.heap.size)
  (h:∀v' w',w'.ownsRow b e size v' (n+m) (xs++d)->w.grownBy w' v.ownBlock->(v'.ownBlock=v.ownBlock\/v'.ownBlock=some w.heap.size)->wpList P l Q rest (a.put o.dst v') w'):wpList P l Q (o::rest) a w:=
 wpList_plain C λ_ hK=>zgH w s x t ho b e i z size bytes ht hi hz j y D hsz v n xs hs k B A m c d hx hr h1 r f g λv' w' h2 h3 h4=>hK _ _ (h v' w' h2 h3 h4)
theorem zfE {l:Array Oper}{o:Oper}{a:Act}{K:Act->World->Prop}{Q:Exit->Act->World->Prop}{E:Prop}(C:o.guard=none)(s x:Operand)(t:TypeId)
  (ho:o.op=.call {callee:=.builtin .append,args:=#[s,x],argTypes:=#[t,t]})
  (b:Nat) (e:TypeId) (i:TypeInfo) (z:Value) (size bytes:Nat) (ht:P.underlying t=some (.slice e)) (hi:P.info? e=some i) (hz:i.zero=some z)
  (j:i.size=size) (y:i.bytes=bytes) (D:z.cells.size=size) (hsz:0<size)
  (v:Value) (n:Nat) (xs:List Value) (hs:a.eval s=v) (k:w.ownsRow b e size v n xs)
  (B:Nat) (A:oA9) (m c:Nat) (d:List Value) (hx:a.eval x=.slice A m c) (hr:zaw w B size A m d) (h1:∀u ∈ d,u.oneCell'=true)
  (r:n+m<=maxLen) (f:(n+m)*bytes<=140737488355328) (g:b<=w.heap.size)
  (h:∀v' w',w'.ownsRow b e size v' (n+m) (xs++d)->w.grownBy w' v.ownBlock->(v'.ownBlock=v.ownBlock\/v'.ownBlock=some w.heap.size)->K (a.put o.dst v') w'):
  if Region.wanted o (yielded l a.tmps)=true then Oper.wp P o a w K Q else E:=by
 have hw:Region.wanted o (yielded l a.tmps)=true:=by simp [Region.wanted,C]
 rw [if_pos hw];exact zgH w s x t ho b e i z size bytes ht hi hz j y D hsz v n xs hs k B A m c d hx hr h1 r f g h
end
theorem zda (w:World)(u:Value)(t:TypeId):∀(j:Nat) (u':Value),[u][j]?=some u'->(w.alloc (.cells #[u] t)).cell? ((⟨w.heap.size,0,none⟩:Addr).add j)=some u':=by
 intro j u' hj
 match j,hj with
 |0,hj=>simp at hj;subst hj;simp [Addr.add]
theorem push_one (k:IntKind)(z:Int):∀u ∈ [Value.int k z],u.oneCell'=true:=by intro u hu;simp at hu;subst hu;rfl
theorem ret_i64 {a b:Int}(h:a=b):Ending.returned (.int .i64 a)=.returned (.int .i64 b):=by rw [h]
theorem zdt {P:Program}{f:FuncId}{args:Array Value}{w:World}{n:Nat}{v:Value}
  (h:Calls P f args (w.drewN n) λe w'=>e=.returned v/\w.drewN n=w'):Calls P f args (w.drewN n) λe a=>e=.returned v/\∃m,a=w.drewN m:=
 h.mono λ_ _ ⟨he,hm⟩=>⟨he,n,hm.symm⟩
def zfA (w:World)(n:Nat)(xs:List Value)(e:Ending)(w':World):Prop:=
 ∃(A:oA9) (c:Nat),e=.returned (.slice A n c)/\zaw w' w'.heap.size 1 A n xs/\n<=c/\(c<=9223372036854775807/\∀ad,A=some ad->w.heap.size<=ad.block)/\Below w.heap.size w w'
theorem own_form {w:World}{a n:Nat}{e:TypeId}{v:Value}{xs:List Value}(h:w.ownsRow a e 1 v n xs):
  ∃(A:oA9) (c:Nat),v=.slice A n c/\zaw w w.heap.size 1 A n xs/\n<=c/\c<=9223372036854775807/\∀ad,A=some ad->a<=ad.block:=by
 have h2:=h.2;rcases h2 with⟨rfl,rfl⟩|⟨g,cap,cur,rfl,hbg,_,hnc,hcm,_⟩
 ·exact⟨none,0,rfl,zaw.of_own h,Nat.le_refl _,om9,by intro ad e;cases e⟩
 ·exact⟨some ⟨g,0,none⟩,cap,rfl,zaw.of_own h,hnc,by unfold maxLen at hcm;omega,by intro ad e;cases e;exact hbg⟩
theorem zlu {w w':World}{n:Nat}{t:TypeId}{v:Value}{xs:List Value}(h:w'.ownsRow w.heap.size t 1 v n xs)(hb:Below w.heap.size w w'):zfA w n xs (.returned v) w':=by
 obtain⟨A,c,rfl,hr,h1,h2,h3⟩:=own_form h;exact⟨A,c,rfl,hr,h1,⟨h2,h3⟩,hb⟩
theorem zfA.from_ {w w1 w':World}{n:Nat}{xs:List Value}{e:Ending}(h:zfA w1 n xs e w')(hb:Below w.heap.size w w1):zfA w n xs e w':=by
 obtain⟨A,c,rfl,hr,h1,⟨h2,h3⟩,h4⟩:=h;exact⟨A,c,rfl,hr,h1,⟨h2,λad e=>Nat.le_trans hb.size (h3 ad e)⟩,hb.trans (h4.mono hb.size)⟩
theorem zfh {B:Nat}{a w:World}(h:Below B a w)(n:Nat):Below B a (w.drewN n):=⟨h.os,h.tape,h.output,h.size,h.block⟩
theorem zbf {P:Program}(t e:TypeId)(i:TypeInfo)(z:Value)(ht:P.underlying t=some (.slice e))(hi:P.info? e=some i)(hz:i.zero=some z)
  (kl kc:IntKind) (n c:Nat) (hnc:n<=c) (hbytes:i.bytes*c<=281474976710656) (h63:c<=9223372036854775807) (w:World):
  (Instr.makeSlice t (.int kl (n:Int)) (.int kc (c:Int))).run P w=.ok (.slice (some ⟨w.heap.size,0,none⟩) n c) (w.alloc (.cells (madeCells z.cells (c*i.size)) e)):=by
 have hb:(i.bytes:Int)*(c:Int)<=281474976710656:=by
  have h:((i.bytes*c:Nat):Int)<=281474976710656:=om9;rwa [Int.natCast_mul] at h
 have hr:=run_make (P:=P) w t e i z ht hi hz kl kc n c om9 om9 hb om9;simp only [Int.toNat_natCast] at hr;exact hr
def dv (b:Nat):List Nat->Nat
 |[]=>0
 |d::l=>d+b*dv b l
def Dgs (b:Nat)(l:List Nat):Prop:=∀d ∈ l,d<b
def zik (b:Nat):Nat->Nat->List Nat
 |0,_=>[]
 |f+1,x=>if x=0 then [] else x%b::zik b f (x / b)
def dg (b x:Nat):List Nat:=zik b x x
theorem zjf:∀(b f g x:Nat),2<=b->x<=f->x<=g->zik b f x=zik b g x
 |b,0,g,x,_,h,_=>by
   have:x=0:=om9;subst this;cases g<;>simp [zik]
 |b,f+1,0,x,_,_,h=>by
   have:x=0:=om9;subst this;simp [zik]
 |b,f+1,g+1,x,hb,h1,h2=>by
   unfold zik
   split
   ·rfl
   ·rename_i hx
    have:x / b<x:=Nat.div_lt_self om9 om9;rw [zjf b f g (x / b) hb om9 om9]
theorem zew (b:Nat):dg b 0=[]:=rfl
theorem zgn {b x:Nat}(hb:2<=b)(hx:x≠0):dg b x=x%b::dg b (x / b):=by
 obtain⟨y,rfl⟩:∃y,x=y+1:=⟨x - 1,om9⟩;unfold dg;rw [zik,if_neg hx];have:(y+1) / b<y+1:=Nat.div_lt_self om9 om9;rw [zjf b y ((y+1) / b) _ hb om9 (Nat.le_refl _)]
theorem zob {b:Nat}(hb:2<=b){P:Nat->Prop}(h0:P 0)(hs:∀x,x≠0->P (x / b)->P x)(x:Nat):P x:=by
 induction x using Nat.strongRecOn with
 |ind x ih=>
   by_cases hx:x=0
   ·subst hx;exact h0
   ·exact hs x hx (ih _ (Nat.div_lt_self om9 om9))
theorem zdF {b:Nat}(hb:2<=b)(x:Nat):dv b (dg b x)=x:=by
 refine zob hb (P:=λx=>dv b (dg b x)=x) rfl (λx hx ih=>?_) x;rw [zgn hb hx,dv,ih];exact Nat.mod_add_div x b
theorem zcY {b:Nat}(hb:2<=b)(x:Nat):Dgs b (dg b x):=by
 refine zob hb (P:=λx=>Dgs b (dg b x)) (by intro d hd;simp [zew] at hd) (λx hx ih=>?_) x;rw [zgn hb hx];intro d hd;rcases List.mem_cons.1 hd with rfl|hd
 ·exact Nat.mod_lt _ om9
 ·exact ih d hd
theorem zbA (b:Nat):∀(l m:List Nat),dv b (l++m)=dv b l+b^l.length*dv b m
 |[],m=>by simp [dv]
 |d::l,m=>by
   rw [List.cons_append,dv,dv,zbA b l m,List.length_cons,Nat.pow_succ,Nat.mul_add,Nat.add_assoc,Nat.mul_comm (b^l.length) b,Nat.mul_assoc]
theorem Dgs.append {b:Nat}{l m:List Nat}(hl:Dgs b l)(hm:Dgs b m):Dgs b (l++m):=by
 intro d hd;rcases List.mem_append.1 hd with h|h
 ·exact hl d h
 ·exact hm d h
theorem Dgs.take {b:Nat}{l:List Nat}(hl:Dgs b l)(k:Nat):Dgs b (l.take k):=λd hd=>hl d (List.mem_of_mem_take hd)
theorem Dgs.drop {b:Nat}{l:List Nat}(hl:Dgs b l)(k:Nat):Dgs b (l.drop k):=λd hd=>hl d (List.mem_of_mem_drop hd)
theorem Dgs.getD {b:Nat}{l:List Nat}(hl:Dgs b l)(hb:0<b)(k:Nat):l.getD k 0<b:=by
 by_cases hk:k<l.length
 ·exact hl _ (by rw [List.getD_eq_getElem?_getD,List.getElem?_eq_getElem hk];exact List.getElem_mem hk)
 ·rw [List.getD_eq_getElem?_getD,List.getElem?_eq_none om9];exact hb
theorem Dgs.zeros {b:Nat}(hb:0<b)(n:Nat):Dgs b (List.replicate n 0):=by
 intro d hd;rw [List.eq_of_mem_replicate hd];exact hb
theorem zeT (b:Nat):∀n,dv b (List.replicate n 0)=0
 |0=>rfl
 |n+1=>by rw [List.replicate_succ,dv,zeT b n];simp
theorem zcP {b:Nat}:∀{l:List Nat},Dgs b l->dv b l<b^l.length
 |[],_=>by simp [dv]
 |d::l,h=>by
   have h1:=h d si9;have h2:=zcP (l:=l) (λe he=>h e (by simp [he]));rw [dv,List.length_cons,Nat.pow_succ,Nat.mul_comm (b^l.length) b];have:b*(dv b l+1)<=b*b^l.length:=Nat.mul_le_mul_left b h2;rw [Nat.mul_add] at this;omega
theorem zbF (b:Nat)(l:List Nat)(d:Nat):dv b (l++[d])=dv b l+b^l.length*d:=by rw [zbA];simp [dv]
theorem zaW (b:Nat)(l:List Nat)(k:Nat):dv b (l.take (k+1))=dv b (l.take k)+b^k*l.getD k 0:=by
 by_cases h:k<l.length
 ·rw [List.take_succ_eq_append_getElem h,zbF,List.length_take,Nat.min_eq_left om9];simp [List.getD,List.getElem?_eq_getElem h]
 ·rw [List.take_of_length_le om9,List.take_of_length_le om9,List.getD_eq_getElem?_getD,List.getElem?_eq_none om9];simp
theorem zmw (b:Nat)(l:List Nat)(k:Nat)(hk:k<=l.length):dv b l=dv b (l.take k)+b^k*dv b (l.drop k):=by
 have h:=zbA b (l.take k) (l.drop k);rw [List.take_append_drop,List.length_take,Nat.min_eq_left hk] at h;exact h
theorem zps {b:Nat}(hb:0<b){l:List Nat}(h:Dgs b l)(k:Nat):dv b (l.take k)=dv b l%b^k:=by
 by_cases hk:k<=l.length
 ·have h2:=zcP (h.take k);rw [List.length_take,Nat.min_eq_left hk] at h2;rw [zmw b l k hk,Nat.add_mul_mod_self_left];exact(Nat.mod_eq_of_lt h2).symm
 ·rw [List.take_of_length_le om9];have h2:=zcP h;exact(Nat.mod_eq_of_lt (Nat.lt_of_lt_of_le h2 (Nat.pow_le_pow_right hb om9))).symm
theorem zgp {b:Nat}(hb:0<b){l:List Nat}(h:Dgs b l)(k:Nat):dv b (l.drop k)=dv b l / b^k:=by
 by_cases hk:k<=l.length
 ·have h2:=zcP (h.take k);rw [List.length_take,Nat.min_eq_left hk] at h2;rw [zmw b l k hk,Nat.add_mul_div_left _ _ (Nat.pow_pos hb),Nat.div_eq_of_lt h2,Nat.zero_add]
 ·rw [List.drop_of_length_le om9];have h2:=zcP h;exact(Nat.div_eq_of_lt (Nat.lt_of_lt_of_le h2 (Nat.pow_le_pow_right hb om9))).symm
theorem zfl {b:Nat}(hb:0<b){l:List Nat}(h:Dgs b l)(k:Nat):l.getD k 0=dv b l / b^k%b:=by
 have h1:=zgp hb h k;rw [<-h1];by_cases hk:k<l.length
 ·rw [List.drop_eq_getElem_cons hk,dv,Nat.add_mul_mod_self_left,List.getD_eq_getElem?_getD,List.getElem?_eq_getElem hk];exact(Nat.mod_eq_of_lt (h _ (List.getElem_mem hk))).symm
 ·rw [List.drop_of_length_le om9,List.getD_eq_getElem?_getD,List.getElem?_eq_none om9];simp [dv]
def Nrm (l:List Nat):Prop:=l≠[]->l.getD (l.length - 1) 0≠0
theorem Nrm.nil:Nrm []:=λh=>absurd rfl h
theorem Nrm.tail {d:Nat}{l:List Nat}(h:Nrm (d::l)):Nrm l:=by
 intro hl;have h2:=h si9;have hp:0<l.length:=List.length_pos_iff.2 hl;rw [List.length_cons,show l.length+1 - 1=(l.length - 1)+1 from by omega] at h2;simpa using h2
theorem nrm_dg {b:Nat}(hb:2<=b)(x:Nat):Nrm (dg b x):=by
 refine zob hb (P:=λx=>Nrm (dg b x)) Nrm.nil (λx hx ih=>?_) x;rw [zgn hb hx];intro _;by_cases h:dg b (x / b)=[]
 ·rw [h];have h0:=zdF hb (x / b);rw [h] at h0;have a:x<b:=by
   rcases Nat.lt_or_ge x b with h2|h2
   ·exact h2
   ·have:=Nat.div_pos h2 om9;simp [dv] at h0;omega
  simp [Nat.mod_eq_of_lt a];exact hx
 ·have hp:0<(dg b (x / b)).length:=List.length_pos_iff.2 h;rw [List.length_cons,show(dg b (x / b)).length+1 - 1=((dg b (x / b)).length - 1)+1 from by omega];simpa using ih h
theorem dg_of {b:Nat}(hb:2<=b):∀{l:List Nat},Dgs b l->Nrm l->l=dg b (dv b l)
 |[],_,_=>rfl
 |d::l,h,hn=>by
   have h1:=h d si9;have h0:Dgs b l:=λe he=>h e (by simp [he]);have e:=dg_of hb h0 hn.tail;have c:dv b (d::l)≠0:=by
    rw [dv];intro hz;have hd:d=0:=om9;have hl:b*dv b l=0:=om9;have a:dv b l=0:=by
     rcases Nat.mul_eq_zero.1 hl with h|h
     ·omega
     ·exact h
    rw [a,zew] at e;subst e;subst hd;exact hn si9 si9
   rw [zgn hb c,dv,Nat.add_mul_mod_self_left,Nat.mod_eq_of_lt h1,Nat.add_mul_div_left _ _ om9,Nat.div_eq_of_lt h1,Nat.zero_add,<-e]
theorem dg_ge {b:Nat}(hb:2<=b)(x:Nat)(hx:x≠0):1<=(dg b x).length/\b^((dg b x).length - 1)<=x:=by
 have a:dg b x≠[]:=by rw [zgn hb hx];simp
 have hp:=List.length_pos_iff.2 a;refine⟨hp,?_⟩;have hn:=nrm_dg hb x a;rw [zfl om9 (zcY hb x),zdF hb] at hn;rcases Nat.lt_or_ge x (b^((dg b x).length - 1)) with h|h
 ·rw [Nat.div_eq_of_lt h] at hn;simp at hn
 ·exact h
theorem zbP {b:Nat}(hb:2<=b)(x:Nat):x<b^(dg b x).length:=by
 have:=zcP (zcY hb x);rwa [zdF hb] at this
theorem zcH {b:Nat}(hb:2<=b)(x n:Nat)(h:x<b^n):(dg b x).length<=n:=by
 by_cases hx:x=0
 ·subst hx;simp [zew]
 ·have h2:=dg_ge hb x hx;have:b^((dg b x).length - 1)<b^n:=Nat.lt_of_le_of_lt h2.2 h;have:=(Nat.pow_lt_pow_iff_right om9).1 this;omega
theorem zbY {b:Nat}(hb:2<=b){x y:Nat}(h:x<=y):(dg b x).length<=(dg b y).length:=zcH hb _ _ (Nat.lt_of_le_of_lt h (zbP hb y))
theorem zqs (b:Nat){l:List Nat}{n:Nat}(hn:n<l.length)(h:l.getD n 0=0):dv b (l.take (n+1))=dv b (l.take n):=by
 have _:=hn;rw [zaW,h];simp
theorem dg_trim {b:Nat}(hb:2<=b){l:List Nat}{n:Nat}(h:Dgs b l)(hn:n<=l.length)(hv:dv b (l.take n)=dv b l)(hz:n=0\/l.getD (n - 1) 0≠0):l.take n=dg b (dv b l):=by
 rw [<-hv];refine dg_of hb (h.take n) ?_;intro a;rw [List.length_take,Nat.min_eq_left hn];rcases hz with rfl|hz
 ·simp at a
 ·by_cases h0:n=0
  ·subst h0;simp at a
  ·rw [List.getD_eq_getElem?_getD,List.getElem?_take,if_pos om9,<-List.getD_eq_getElem?_getD];exact hz
theorem zhP (b x j:Nat):x / b^j=b*(x / b^(j+1))+x / b^j%b:=by
 rw [Nat.pow_succ,<-Nat.div_div_eq_div_mul];exact(Nat.div_add_mod _ _).symm
theorem cmp_eq {b x y j:Nat}(h:x / b^(j+1)=y / b^(j+1))(hd:x / b^j%b=y / b^j%b):x / b^j=y / b^j:=by
 rw [zhP b x j,zhP b y j,h,hd]
theorem znY {b x y j:Nat}(h:x / b^(j+1)=y / b^(j+1))(hd:x / b^j%b<y / b^j%b):x<y:=by
 have h1:=zhP b x j;have h2:=zhP b y j;rw [h] at h1;rcases Nat.lt_or_ge x y with hl|hl
 ·exact hl
 ·have:=Nat.div_le_div_right (c:=b^j) hl;omega
theorem zjt {b:Nat}(hb:2<=b){x y:Nat}(h:(dg b x).length<(dg b y).length):x<y:=by
 rcases Nat.lt_or_ge x y with hl|hl
 ·exact hl
 ·have:=zbY hb hl;omega
theorem zjD (i:Nat):(65536:Nat)^(4*i)=18446744073709551616^i:=by rw [Nat.pow_mul]
theorem zba (b x k:Nat):x%b^(k+1)=x%b^k+b^k*(x / b^k%b):=by rw [Nat.pow_succ,Nat.mod_mul]
structure zfg (x j:Nat)(L:List Nat):Prop where
 len:L.length=j
 dgs:Dgs 18446744073709551616 L
 val:dv 18446744073709551616 L=x%18446744073709551616^j
theorem zfg.start (x:Nat):zfg x 0 []:=⟨rfl,by intro d hd;simp at hd,by simp [dv,Nat.mod_one]⟩
theorem zfg.step {x j:Nat}{L:List Nat}(h:zfg x j L):zfg x (j+1) (L++[x / 65536^(4*j)%65536^4]):=by
 refine⟨by simp [h.len],h.dgs.append (by intro d hd;simp at hd;subst hd;exact Nat.mod_lt _ de9),?_⟩;rw [zbF,h.val,h.len,zjD,show(65536:Nat)^4=18446744073709551616 from by decide,<-zba]
theorem zfg.done {x j:Nat}{L:List Nat}(h:zfg x j L)(hlo:j=0\/4*(j - 1)<(dg 65536 x).length)(c:(dg 65536 x).length<=4*j):L=dg 18446744073709551616 x:=by
 have hx:x<18446744073709551616^j:=by
  rw [<-zjD];exact Nat.lt_of_lt_of_le (zbP de9 x) (Nat.pow_le_pow_right de9 c)
 have hv:dv 18446744073709551616 L=x:=by rw [h.val,Nat.mod_eq_of_lt hx]
 conv=>rhs;rw [<-hv]
 refine dg_of de9 h.dgs ?_;intro d;have hj:j≠0:=by
  rintro rfl;exact d (List.length_eq_zero_iff.1 h.len)
 obtain⟨i,rfl⟩:∃i,j=i+1:=⟨j - 1,om9⟩;rw [zfl de9 h.dgs,hv,h.len];have a:4*i<(dg 65536 x).length:=om9;have f:x≠0:=by rintro rfl;simp [zew] at a
 have b:18446744073709551616^i<=x:=by
  rw [<-zjD];exact Nat.le_trans (Nat.pow_le_pow_right de9 om9) (dg_ge de9 x f).2
 have h1:0<x / 18446744073709551616^(i+1 - 1):=Nat.div_pos (by simpa using b) (Nat.pow_pos de9);have h2:x / 18446744073709551616^(i+1 - 1)<18446744073709551616:=by
  rw [Nat.add_sub_cancel];refine(Nat.div_lt_iff_lt_mul (Nat.pow_pos de9)).2 ?_;rw [Nat.mul_comm,<-Nat.pow_succ];exact hx
 rw [Nat.mod_eq_of_lt h2];omega
def zaF (k:IntKind)(l:List Nat):List Value:=l.map λd:Nat=>Value.int k (d:Int)
theorem zaL (k:IntKind)(l:List Nat):(zaF k l).length=l.length:=by simp [zaF]
theorem zeE (k:IntKind)(l m:List Nat):zaF k (l++m)=zaF k l++zaF k m:=by simp [zaF]
theorem zrv (k:IntKind)(l:List Nat)(n:Nat):(zaF k l).take n=zaF k (l.take n):=by simp [zaF]
theorem zru (k:IntKind)(l:List Nat)(n:Nat):(zaF k l).drop n=zaF k (l.drop n):=by simp [zaF]
theorem zhF (k:IntKind)(l:List Nat):∀u ∈ zaF k l,u.oneCell'=true:=by
 intro u hu;obtain⟨d,_,rfl⟩:=List.mem_map.1 hu;rfl
theorem zdy {w:World}{B n:Nat}{A:oA9}{K:IntKind}{l:List Nat}(hr:zaw w B 1 A n (zaF K l)){k:Nat}(hk:k<n):∃ad:Addr,A=some ad/\ad.block<B/\w.cell? (ad.add k)=some (.int K (l.getD k 0:Nat)):=by
 have hlen:l.length=n:=by have:=hr.1;rw [zaL] at this;omega
 obtain⟨ad,u,e,hb,hu,hc⟩:=hr.at_ hk;refine⟨ad,e,hb,hc.trans ?_⟩;rw [List.getD_eq_getElem?_getD,List.getElem?_eq_getElem om9];simp only [zaF,List.getElem?_map,List.getElem?_eq_getElem (show k<l.length by omega),Option.map_some,Option.some.injEq] at hu;rw [<-hu];rfl
theorem zaw.len_ {w:World}{B n:Nat}{A:oA9}{K:IntKind}{l:List Nat}(hr:zaw w B 1 A n (zaF K l)):l.length=n:=by
 have:=hr.1;rw [zaL] at this;omega
theorem zaw.take_ {w:World}{B n k:Nat}{A:oA9}{xs:List Value}(hr:zaw w B 1 A n xs)(hk:k<=n):zaw w B 1 A k (xs.take k):=by
 have h1:=hr.1;refine⟨by rw [List.length_take];omega,λh=>?_⟩;obtain⟨ad,e,hb,hc⟩:=hr.2 om9;refine⟨ad,e,hb,λj u hu=>hc j u ?_⟩;rw [List.getElem?_take] at hu
 split at hu
 ·exact hu
 ·cases hu
def zdB (w:World)(x:Nat)(A:oA9)(n c:Nat):Prop:=
 zaw w w.heap.size 1 A n (zaF .i64 (dg 65536 x))/\n<=c/\c<=9223372036854775807
def zha (w:World)(x:Nat):Ending->World->Prop:=zfA w (dg 65536 x).length (zaF .i64 (dg 65536 x))
theorem zdB.len {w:World}{x:Nat}{A:oA9}{n c:Nat}(h:zdB w x A n c):n=(dg 65536 x).length:=h.1.len_.symm
theorem zdB.below {w w':World}{x:Nat}{A:oA9}{n c:Nat}(h:zdB w x A n c)(hb:Below w.heap.size w w'):zdB w' x A n c:=
 ⟨(h.1.below hb).more hb.size,h.2⟩
theorem zha.elim {w w':World}{x:Nat}{e:Ending}(h:zha w x e w'):∃(A:oA9) (n c:Nat),e=.returned (.slice A n c)/\zdB w' x A n c/\Below w.heap.size w w':=by
 obtain⟨A,c,rfl,hr,h1,⟨h2,_⟩,h3⟩:=h;exact⟨A,_,c,rfl,⟨hr,h1,h2⟩,h3⟩
theorem zha.from_ {w w1 w':World}{x:Nat}{e:Ending}(h:zha w1 x e w')(hb:Below w.heap.size w w1):zha w x e w':=zfA.from_ h hb
def zcG (x y:Nat):Int:=if x<y then -1 else if x=y then 0 else 1
theorem zev {x y:Nat}(h:x<y):zcG x y= -1:=if_pos h
theorem zfj {x y:Nat}(h:y<x):zcG x y=1:=by unfold zcG;rw [if_neg om9,if_neg om9]
theorem zgm {x y:Nat}(h:x=y):zcG x y=0:=by unfold zcG;rw [if_neg om9,if_pos h]
def znO (w:World)(x:Nat):Ending->World->Prop:=zfA w (dg 18446744073709551616 x).length (zaF .u64 (dg 18446744073709551616 x))
structure ziO (x y k:Nat)(out:List Nat)(c:Nat):Prop where
 len:out.length=k
 dgs:Dgs 65536 out
 carry:c<=1
 sum:x%65536^k+y%65536^k=dv 65536 out+65536^k*c
theorem ziO.start (x y:Nat):ziO x y 0 [] 0:=⟨rfl,by intro d hd;simp at hd,om9,by simp [dv,Nat.mod_one]⟩
theorem ziO.step {x y k c s:Nat}{a:List Nat}(h:ziO x y k a c)(hs:s=x / 65536^k%65536+y / 65536^k%65536+c):ziO x y (k+1) (a++[s%65536]) (s / 65536):=by
 have h1:x / 65536^k%65536<65536:=Nat.mod_lt _ de9;have h2:y / 65536^k%65536<65536:=Nat.mod_lt _ de9;have h3:=h.carry;refine⟨by simp [h.len],h.dgs.append (by intro d hd;simp at hd;subst hd;omega),om9,?_⟩;have e:=h.sum;rw [zba 65536 x k,zba 65536 y k,zbF,h.len,Nat.pow_succ,Nat.mul_assoc,Nat.add_assoc (dv 65536 a),<-Nat.mul_add,Nat.mod_add_div,hs,Nat.mul_add,Nat.mul_add];omega
theorem ziO.done {x y k:Nat}{a:List Nat}(h:ziO x y k a 0)(hx:(dg 65536 x).length<=k)(hy:(dg 65536 y).length<=k):dv 65536 a=x+y:=by
 have e:=h.sum;have h1:x<65536^k:=Nat.lt_of_lt_of_le (zbP de9 x) (Nat.pow_le_pow_right de9 hx);have h2:y<65536^k:=Nat.lt_of_lt_of_le (zbP de9 y) (Nat.pow_le_pow_right de9 hy);rw [Nat.mod_eq_of_lt h1,Nat.mod_eq_of_lt h2] at e;omega
structure ziW (x y k:Nat)(out:List Nat)(c:Nat):Prop where
 len:out.length=k
 dgs:Dgs 65536 out
 lack:c<=1
 sum:dv 65536 out+y%65536^k=x%65536^k+65536^k*c
theorem ziW.start (x y:Nat):ziW x y 0 [] 0:=⟨rfl,by intro d hd;simp at hd,om9,by simp [dv,Nat.mod_one]⟩
theorem ziW.step {x y k c d c':Nat}{a:List Nat}(h:ziW x y k a c)(hd:d<65536)(hc:c'<=1)(hs:d+y / 65536^k%65536+c=x / 65536^k%65536+65536*c'):ziW x y (k+1) (a++[d]) c':=by
 refine⟨by simp [h.len],h.dgs.append (by intro e he;simp at he;subst he;exact hd),hc,?_⟩;have e:=h.sum;have e2:65536^k*d+65536^k*(y / 65536^k%65536)+65536^k*c=65536^k*(x / 65536^k%65536)+65536^k*(65536*c'):=by
  rw [<-Nat.mul_add,<-Nat.mul_add,hs,Nat.mul_add]
 rw [zba 65536 x k,zba 65536 y k,zbF,h.len,Nat.pow_succ,Nat.mul_assoc (65536^k) 65536 c'];omega
theorem ziW.done {x y k c:Nat}{a:List Nat}(h:ziW x y k a c)(b:y<=x)(hx:(dg 65536 x).length<=k):dv 65536 a=x - y:=by
 have e:=h.sum;have h1:x<65536^k:=Nat.lt_of_lt_of_le (zbP de9 x) (Nat.pow_le_pow_right de9 hx);have h3:=zcP h.dgs;rw [h.len] at h3;rw [Nat.mod_eq_of_lt h1,Nat.mod_eq_of_lt (Nat.lt_of_le_of_lt b h1)] at e;have h4:=h.lack;have:c=0\/c=1:=om9;rcases this with rfl|rfl<;>omega
structure zfe (x m a k:Nat)(out:List Nat)(c:Nat):Prop where
 len:out.length=k
 dgs:Dgs 65536 out
 carry:c<65536
 sum:dv 65536 out+65536^k*c=x%65536^k*m+a
theorem zfe.start (x m a:Nat)(ha:a<65536):zfe x m a 0 [] a:=⟨rfl,by intro d hd;simp at hd,ha,by simp [dv,Nat.mod_one]⟩
theorem zfe.step {x m a k c s:Nat}{b:List Nat}(h:zfe x m a k b c)(hm:m<65536)(hs:s=x / 65536^k%65536*m+c):zfe x m a (k+1) (b++[s%65536]) (s / 65536):=by
 have h1:x / 65536^k%65536<65536:=Nat.mod_lt _ de9;have h2:x / 65536^k%65536*m<=65535*65535:=Nat.mul_le_mul om9 om9;have h3:=h.carry;refine⟨by simp [h.len],h.dgs.append (by intro d hd;simp at hd;subst hd;omega),om9,?_⟩;have e:=h.sum;have e2:65536^k*(s%65536)+65536^k*(65536*(s / 65536))=65536^k*s:=by rw [<-Nat.mul_add,Nat.mod_add_div]
 have e3:65536^k*s=65536^k*(x / 65536^k%65536)*m+65536^k*c:=by rw [hs,Nat.mul_add,Nat.mul_assoc]
 rw [zbF,h.len,Nat.pow_succ,Nat.mul_assoc (65536^k) 65536,<-Nat.pow_succ,zba 65536 x k,Nat.add_mul];omega
theorem zfe.done {x m a k c:Nat}{b:List Nat}(h:zfe x m a k b c)(hx:(dg 65536 x).length<=k):dv 65536 (b++[c%65536,c / 65536])=x*m+a/\Dgs 65536 (b++[c%65536,c / 65536]):=by
 have e:=h.sum;have h1:x<65536^k:=Nat.lt_of_lt_of_le (zbP de9 x) (Nat.pow_le_pow_right de9 hx);rw [Nat.mod_eq_of_lt h1] at e;have h3:=h.carry;refine⟨?_,h.dgs.append (by intro d hd;simp at hd;rcases hd with rfl|rfl<;>omega)⟩;rw [zbA,h.len];simp only [dv,Nat.mul_zero,Nat.add_zero];rw [Nat.mod_add_div];exact e
structure zgK (x m n k:Nat)(out:List Nat)(left:Nat):Prop where
 len:out.length=n - k
 dgs:Dgs 65536 out
 rest:left<m
 sum:dv 65536 out*m+left=x / 65536^k
theorem zgK.start {x m n:Nat}(hm:0<m)(hn:(dg 65536 x).length<=n):zgK x m n n [] 0:=by
 have h1:x<65536^n:=Nat.lt_of_lt_of_le (zbP de9 x) (Nat.pow_le_pow_right de9 hn);exact⟨si9,by intro d hd;simp at hd,hm,by simp [dv,Nat.div_eq_of_lt h1]⟩
theorem zgK.step {x m n k a s:Nat}{b:List Nat}(h:zgK x m n (k+1) b a)(hk:k+1<=n)(hs:s=a*65536+x / 65536^k%65536):zgK x m n k (s / m::b) (s%m):=by
 have h1:x / 65536^k%65536<65536:=Nat.mod_lt _ de9;have h3:=h.rest;have hm:0<m:=om9;refine⟨by simp [h.len];omega,?_,Nat.mod_lt _ hm,?_⟩
 ·intro d hd;rcases List.mem_cons.1 hd with rfl|hd
  ·refine(Nat.div_lt_iff_lt_mul hm).2 ?_;have:(a+1)*65536<=m*65536:=Nat.mul_le_mul_right _ h3;omega
  ·exact h.dgs d hd
 ·have e:=h.sum;have e2:=zhP 65536 x k;have e3:=Nat.div_add_mod s m;rw [dv,Nat.add_mul,e2,<-e,Nat.mul_add,Nat.mul_assoc 65536,Nat.mul_comm (s / m) m];omega
theorem zgK.done {x m n a:Nat}{b:List Nat}(h:zgK x m n 0 b a):dv 65536 b=x / m/\a=x%m:=by
 have e:=h.sum;have h3:=h.rest;rw [Nat.pow_zero,Nat.div_one] at e;have hm:0<m:=om9;refine⟨?_,?_⟩
 ·rw [<-e,Nat.add_comm,Nat.add_mul_div_right _ _ hm,Nat.div_eq_of_lt h3,Nat.zero_add]
 ·rw [<-e,Nat.add_comm,Nat.add_mul_mod_self_right,Nat.mod_eq_of_lt h3]
theorem drop_set (cs:Array Value)(k:Nat)(u:Value)(h:k<cs.size):(cs.setIfInBounds k u).toList.drop k=u::cs.toList.drop (k+1):=by
 rw [Array.toList_setIfInBounds,List.drop_eq_getElem_cons (by simpa using h)];simp [List.drop_set]
def zgC (w:World)(x:Nat)(v:Value):Prop:=
 ∃(A:oA9) (n c:Nat),v=.agg #[.slice A n c]/\zaw w w.heap.size 1 A n (zaF .u64 (dg 18446744073709551616 x))/\n<=c/\c<=9223372036854775807
theorem zgC.below {w w':World}{x:Nat}{v:Value}(h:zgC w x v)(hb:Below w.heap.size w w'):zgC w' x v:=by
 obtain⟨A,n,c,e,hr,h1,h2⟩:=h;exact⟨A,n,c,e,(hr.below hb).more hb.size,h1,h2⟩
theorem zgC.drewN {w:World}{x:Nat}{v:Value}(h:zgC w x v)(k:Nat):zgC (w.drewN k) x v:=h
def znN (w:World)(x:Nat)(e:Ending)(w':World):Prop:=∃v,e=.returned v/\zgC w' x v/\Below w.heap.size w w'
theorem znN.from_ {w w1 w':World}{x:Nat}{e:Ending}(h:znN w1 x e w')(hb:Below w.heap.size w w1):znN w x e w':=by
 obtain⟨v,he,hn,h3⟩:=h;exact⟨v,he,hn,hb.trans (h3.mono hb.size)⟩
