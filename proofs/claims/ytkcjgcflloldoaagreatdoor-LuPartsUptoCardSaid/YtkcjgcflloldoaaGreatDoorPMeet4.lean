/- What this claim leans on. -/
import Derived.Test.YtkcjgcflloldoaaGreatDoorPW8Far
set_option linter.unusedVariables false
set_option linter.unusedSimpArgs false
namespace Go.Proofs.YtkcjgcflloldoaaGreatDoor
open Go Go.RowKit
set_option maxHeartbeats 16000000
variable {z:Array Value}{a i j st t:Nat}{ad:Nat->Nat}{ty:TypeId}{w:World}
def su (g:Nat)(w w':World):Prop:=xg g w w'/\(∀k t cs,k≠g->zh w k t cs->zh w' k t cs)/\∀W:World,W.heap.size<=g->Below W.heap.size W w->Below W.heap.size W w'
theorem su.refl (g:Nat)(w:World):su g w w:=⟨xg.refl g w,λ_ _ _ _ h=>h,λ_ _ h=>h⟩
theorem su.set_ {g:Nat}{w':World}(h:su g w w')(j:Nat)(v:Value):su g w (w'.setCell ⟨g,j,none⟩ v):=
 ⟨h.1.set_ j v,λk t cs hk hb=>zh.far (h.2.1 k t cs hk hb) hk v,λW hg hb=>zB v hg (h.2.2 W hg hb)⟩
theorem WN (w:World)(g:Nat)(a:Value):su g w (w.setCell ⟨g,0,none⟩ a):=(su.refl g w).set_ 0 a
theorem eT (w:World)(g:Nat)(a b:Value):su g w ((w.setCell ⟨g,0,none⟩ a).setCell ⟨g,1,none⟩ b):=(WN w g a).set_ 1 b
theorem S9 (w:World)(g:Nat)(a b c:Value):su g w (((w.setCell ⟨g,0,none⟩ a).setCell ⟨g,1,none⟩ b).setCell ⟨g,2,none⟩ c):=(eT w g a b).set_ 2 c
inductive ye where
 |old (t:Nat) (v:Value)
 |val (t:Nat) (F:Value->World->Prop)
 |box (t:Nat) (ty:TypeId) (z:Array Value) (st src:Nat)
 |sto (b src:Nat)
class Kf (B : TypeId → Array Value → Prop) (F : Value → World → Prop) : Prop where
 b:∀v w w',Below w.heap.size w w'->F v w->F v w'
 f:∀v w w' g t cs,B t cs->zh w g t cs->su g w w'->F v w->F v w'
def lU {α:Type}(f:Nat->α)(i:Nat)(v:α):Nat->α:=λj=>if j=i then v else f j
def uf (md:Region.Mode)(o:Oper)(j:Nat):Bool:=o.after.toList.any λe=>Region.binds md e&&e.on==j
theorem Yo {md:Region.Mode}{c:Array Oper}{l:Array Bool}{o:Oper}(hi:i ∈ Region.ready md c l)(ho:c[i]?=some o)(hd:uf md o j=true):l.getD j false=true:=by
 obtain⟨_,o',a,h⟩:=mem_ready.1 hi;rw [ho] at a;cases a;obtain⟨e,he,h2⟩:=List.any_eq_true.1 hd;rw [Bool.and_eq_true] at h2;rw [<-eq_of_beq h2.2];exact h e (by simpa using he) h2.1
def ye.At (l:Array Bool)(vs:Nat->Value)(ad:Nat->Nat)(W:World)(a:Act)(w:World)(i:Nat):ye->Prop
 |.old t v=>a.tmps.getD t undef=v
 |.val t F=>a.tmps.getD t undef=vs i/\F (vs i) w
 |.box t ty z st src=>a.tmps.getD t undef=.pointer (some ⟨ad i,0,none⟩)/\W.heap.size<=ad i/\zh w (ad i) ty (if l.getD st false=true then(vs src).cells else z)
 |.sto _ _=>True
def ye.slot:ye->Option Nat
 |.old _ _=>none
 |.val t _=>some t
 |.box t _ _ _ _=>some t
 |.sto _ _=>none
def rC (ks:List ye)(a:Act)(w:World)(j:Nat):Prop:=
 match ks[j]? with
 |some (.old t v)=>a.tmps.getD t undef=v
 |some (.val t F)=>∃v,a.tmps.getD t undef=v/\F v w
 |_=>True
def gJ:List Nat->Bool
 |[]=>true
 |x::xs=>xs.all (λy=>y !=x)&&gJ xs
theorem jD {xs:List Nat}(h:xs.all (λy=>y !=t)=true):t ∉ xs:=λhm=>by
 have:=List.all_eq_true.1 h t hm;simp at this
theorem pH:∀{xs:List Nat},gJ xs=true->xs.Nodup
 |[],_=>List.nodup_nil
 |x::xs,h=>by
   unfold gJ at h;rw [Bool.and_eq_true] at h;exact List.nodup_cons.2 ⟨jD h.1,pH h.2⟩
section
variable {P:Program}{md:Region.Mode}{ks:List ye}{W:World}{A0:Act}{B:TypeId->Array Value->Prop}
def kO (P:Program)(md:Region.Mode)(ks:List ye)(W:World)(o:Oper)(t:Nat)(F:Value->World->Prop):Prop:=
 ∀A w,Below W.heap.size W w->(∀j,uf md o j=true->rC ks A w j)->∀(K:Act->World->Prop) (Q:Exit->Act->World->Prop),(∀v w',Below w.heap.size w w'->F v w'->K (A.put (some t) v) w')->Oper.wp P o A w K Q
def kM (P:Program)(o:Oper)(t:Nat)(ty:TypeId)(z:Array Value):Prop:=
 ∀(A:Act) (w:World) (K:Act->World->Prop) (Q:Exit->Act->World->Prop),K (A.put (some t) (.pointer (some ⟨w.heap.size,0,none⟩))) (w.alloc (.cells z ty))->Oper.wp P o A w K Q
def kN (P:Program)(o:Oper)(tb:Nat)(ty:TypeId)(z:Array Value)(ts:Nat)(F:Value->World->Prop):Prop:=
 ∀(A:Act) (w:World) (g:Nat) (v:Value),A.tmps.getD tb undef=.pointer (some ⟨g,0,none⟩)->A.tmps.getD ts undef=v->F v w->zh w g ty z->∀(K:Act->World->Prop) (Q:Exit->Act->World->Prop),(∀w',su g w w'->zh w' g ty v.cells->K A w')->Oper.wp P o A w K Q
def ye.Run (P:Program)(md:Region.Mode)(B:TypeId->Array Value->Prop)(ks:List ye)(W:World)(A0:Act)(ops:Array Oper)(i:Nat):ye->Prop
 |.old t v=>A0.tmps.getD t undef=v/\t ∉ ks.filterMap ye.slot
 |.val t F=>Kf B F/\t<A0.tmps.size/\∃o,ops[i]?=some o/\o.guard=none/\kO P md ks W o t F
 |.box t ty z st src=>B ty z/\t<A0.tmps.size/\(∃o,ops[i]?=some o/\o.guard=none/\kM P o t ty z)/\ks[st]?=some (.sto i src)
 |.sto b src=>∃o,ops[i]?=some o/\o.guard=none/\uf md o b=true/\uf md o src=true/\∃tb ty z ts F,ks[b]?=some (.box tb ty z i src)/\ks[src]?=some (.val ts F)/\kN P o tb ty z ts F
structure MJ (ks:List ye)(W:World)(A0:Act)(l:Array Bool)(a:Act)(w:World)(vs:Nat->Value)(ad:Nat->Nat):Prop where
 kept:ul (ks.filterMap ye.slot) A0 a
 below:Below W.heap.size W w
 len:l.size=ks.length
 at_:∀(i:Nat) k,ks[i]?=some k->l.getD i false=true->k.At l vs ad W a w i
 old:∀(i:Nat) t v,ks[i]?=some (ye.old t v)->l.getD i false=true
 ne:∀(i j:Nat) t ty z st src t' ty' z' st' src',ks[i]?=some (ye.box t ty z st src)->ks[j]?=some (ye.box t' ty' z' st' src')->i≠j->l.getD i false=true->l.getD j false=true->ad i≠ad j
 closed:∀(i:Nat) t ty z st src,ks[i]?=some (ye.box t ty z st src)->l.getD st false=true->l.getD i false=true/\l.getD src false=true
theorem wW {l:Array Bool}(h:i<l.size):(l.setIfInBounds i true).getD j false=if j=i then true else l.getD j false:=by
 simp only [QG];by_cases e:j=i
 ·subst e;rw [if_pos rfl,QZ h];rfl
 ·rw [if_neg e,qK (Ne.symm e)]
theorem aW {k k':ye}{t':Nat}(hn:(ks.filterMap ye.slot).Nodup)(hi:ks[i]?=some k)(hj:ks[j]?=some k')(a:i≠j)(h:k.slot=some t)(h':k'.slot=some t'):t≠t':=by
 intro e;subst e
 induction ks generalizing i j with
 |nil=>simp at hi
 |cons x xs ih=>
   have hx:(xs.filterMap ye.slot).Nodup:=by
    rw [List.filterMap_cons] at hn
    split at hn
    ·exact hn
    ·exact(List.nodup_cons.1 hn).2
   have c:∀(m:Nat) (q:ye),xs[m]?=some q->q.slot=some t->x.slot=some t->False:=λm q hm hq d=>by
    rw [List.filterMap_cons,d] at hn;exact(List.nodup_cons.1 hn).1 (List.mem_filterMap.2 ⟨q,QY hm,hq⟩)
   cases i with
   |zero=>
     cases j with
     |zero=>exact a rfl
     |succ j=>
       rw [qN] at hi;rw [qA] at hj;injection hi with hi;subst hi;exact c j k' hj h' h
   |succ i=>
     rw [qA] at hi;cases j with
     |zero=>
       rw [qN] at hj;injection hj with hj;subst hj;exact c i k hi h h'
     |succ j=>
       rw [qA] at hj;exact ih hx hi hj (λe=>a (by rw [e]))
variable {ops:Array Oper}{l:Array Bool}{a:Act}{w w':World}{vs:Nat->Value}{ad:Nat->Nat}{i:Nat}
theorem iY {α:Type}(f:Nat->α)(i:Nat)(v:α):lU f i v i=v:=if_pos rfl
theorem nA {α:Type}(f:Nat->α){i j:Nat}(h:j≠i)(v:α):lU f i v j=f j:=if_neg h
theorem aV {k:ye}(hj:ks[i]?=some k)(h:k.slot=some t):t ∈ ks.filterMap ye.slot:=List.mem_filterMap.2 ⟨k,QY hj,h⟩
structure tU (P:Program)(md:Region.Mode)(B:TypeId->Array Value->Prop)(ks:List ye)(W:World)(A0:Act)(ops:Array Oper):Prop where
 run:∀(i:Nat) k,ks[i]?=some k->k.Run P md B ks W A0 ops i
 nd:(ks.filterMap ye.slot).Nodup
theorem MJ.val (R:tU P md B ks W A0 ops)(h:MJ ks W A0 l a w vs ad){t:Nat}{F:Value->World->Prop}{v:Value}(hk:ks[i]?=some (.val t F))(hi:l.getD i false=false)(hb:Below w.heap.size w w')(hF:F v w'):
  MJ ks W A0 (l.setIfInBounds i true) (a.put (some t) v) w' (lU vs i v) ad:=by
 have c:i<l.size:=by rw [h.len];exact(List.getElem?_eq_some_iff.1 hk).1
 have n:∀(j:Nat) t ty z st d,ks[j]?=some (ye.box t ty z st d)->st≠i:=λj t ty z st d hj e=>by
  have:=(R.run j _ hj).2.2.2;rw [e,hk] at this;injection this with this;cases this
 refine⟨h.kept.put (aV hk rfl) v,zc h.below hb,by rw [Array.size_setIfInBounds];exact h.len,λj k hj hl=>?_,λj t v hj=>?_,λj j' t ty z st d t' ty' z' st' src' hj g hn hl m=>?_,λj t ty z st d hj hl=>?_⟩
 ·rw [wW c] at hl;by_cases e:j=i
  ·subst e;rw [hk] at hj;injection hj with hj;subst hj;refine⟨?_,?_⟩
   ·rw [iY];exact ti (h.kept.lt (R.run _ _ hk).2.1) v
   ·rw [iY];exact hF
  ·rw [if_neg e] at hl;have h1:=h.at_ j k hj hl;cases k with
   |old t0 v0=>exact(nE (λe9=>(R.run _ _ hj).2 (by rw [e9];exact aV hk rfl)) v).trans h1
   |val t0 F0=>
     refine⟨(nE (aW R.nd hj hk e rfl rfl) v).trans ?_,?_⟩
     ·rw [nA _ e];exact h1.1
     ·rw [nA _ e];exact(R.run _ _ hj).1.b _ _ _ hb h1.2
   |box t0 ty z st d=>
     refine⟨(nE (aW R.nd hj hk e rfl rfl) v).trans h1.1,h1.2.1,?_⟩;rw [wW c,if_neg (n _ _ _ _ _ _ hj)];have h3:=zg hb h1.2.2;by_cases hs:l.getD st false=true
     ·rw [if_pos hs] at h3⊢;have h4:=(h.closed _ _ _ _ _ _ hj hs).2;rw [nA _ (λe9=>by rw [e9,hi] at h4;cases h4)];exact h3
     ·rw [if_neg hs] at h3⊢;exact h3
   |sto b d=>trivial
 ·rw [wW c];split
  ·rfl
  ·exact h.old j t v hj
 ·rw [wW c,if_neg (λe=>by rw [e,hk] at hj;injection hj with hj;cases hj)] at hl;rw [wW c,if_neg (λe=>by rw [e,hk] at g;injection g with g;cases g)] at m;exact h.ne j j' _ _ _ _ _ _ _ _ _ _ hj g hn hl m
 ·rw [wW c,if_neg (n _ _ _ _ _ _ hj)] at hl;have:=h.closed _ _ _ _ _ _ hj hl;rw [wW c,wW c];refine⟨?_,?_⟩
  ·split
   ·rfl
   ·exact this.1
  ·split
   ·rfl
   ·exact this.2
theorem MJ.box (R:tU P md B ks W A0 ops)(h:MJ ks W A0 l a w vs ad){t:Nat}{ty:TypeId}{z:Array Value}{st c:Nat}(hk:ks[i]?=some (.box t ty z st c))(hi:l.getD i false=false):
  MJ ks W A0 (l.setIfInBounds i true) (a.put (some t) (.pointer (some ⟨w.heap.size,0,none⟩))) (w.alloc (.cells z ty)) vs (lU ad i w.heap.size):=by
 have d:i<l.size:=by rw [h.len];exact(List.getElem?_eq_some_iff.1 hk).1
 have hb:=fi w (.cells z ty);have m:∀(j:Nat) t ty z st c,ks[j]?=some (ye.box t ty z st c)->st≠i:=λj t ty z st c hj e=>by
  have:=(R.run j _ hj).2.2.2;rw [e,hk] at this;injection this with this;cases this
 have o:∀(j:Nat) t ty z st c,ks[j]?=some (ye.box t ty z st c)->l.getD j false=true->ad j<w.heap.size:=λj t ty z st c hj hl=>(h.at_ j _ hj hl).2.2.lt;refine⟨h.kept.put (aV hk rfl) _,zc h.below hb,by rw [Array.size_setIfInBounds];exact h.len,λj k hj hl=>?_,λj t v hj=>?_,λj j' t ty z st c t' ty' z' st' src' hj n hn hl g=>?_,λj t ty z st c hj hl=>?_⟩
 ·rw [wW d] at hl;by_cases e:j=i
  ·subst e;rw [hk] at hj;injection hj with hj;subst hj;refine⟨?_,?_,?_⟩
   ·rw [iY];exact ti (h.kept.lt (R.run _ _ hk).2.1) _
   ·rw [iY];exact h.below.size
   ·rw [iY,wW d,if_neg (m _ _ _ _ _ _ hk),if_neg (λhs=>by have:=(h.closed _ _ _ _ _ _ hk hs).1;rw [hi] at this;cases this)];exact heap_alloc_new w _
  ·rw [if_neg e] at hl;have h1:=h.at_ j k hj hl;cases k with
   |old t0 v0=>exact(nE (λe9=>(R.run _ _ hj).2 (by rw [e9];exact aV hk rfl)) _).trans h1
   |val t0 F0=>exact⟨(nE (aW R.nd hj hk e rfl rfl) _).trans h1.1,(R.run _ _ hj).1.b _ _ _ hb h1.2⟩
   |box t0 ty0 z0 st0 src0=>
     refine⟨(nE (aW R.nd hj hk e rfl rfl) _).trans ?_,?_,?_⟩
     ·rw [nA _ e];exact h1.1
     ·rw [nA _ e];exact h1.2.1
     ·rw [nA _ e,wW d,if_neg (m _ _ _ _ _ _ hj)];exact zg hb h1.2.2
   |sto b c=>trivial
 ·rw [wW d];split
  ·rfl
  ·exact h.old j t v hj
 ·rw [wW d] at hl g;by_cases e:j=i
  ·have e':j'≠i:=λe9=>hn (by rw [e,e9]);rw [if_neg e'] at g;rw [e,iY,nA _ e'];have:=o _ _ _ _ _ _ n g;omega
  ·rw [if_neg e] at hl;by_cases e':j'=i
   ·rw [e',iY,nA _ e];have:=o _ _ _ _ _ _ hj hl;omega
   ·rw [if_neg e'] at g;rw [nA _ e,nA _ e'];exact h.ne j j' _ _ _ _ _ _ _ _ _ _ hj n hn hl g
 ·rw [wW d,if_neg (m _ _ _ _ _ _ hj)] at hl;have:=h.closed _ _ _ _ _ _ hj hl;rw [wW d,wW d];refine⟨?_,?_⟩
  ·split
   ·rfl
   ·exact this.1
  ·split
   ·rfl
   ·exact this.2
theorem MJ.sto (R:tU P md B ks W A0 ops)(h:MJ ks W A0 l a w vs ad){b d tb:Nat}{ty:TypeId}{z:Array Value}(hk:ks[i]?=some (.sto b d))(hi:l.getD i false=false)(m:ks[b]?=some (.box tb ty z i d))(n:l.getD b false=true)(y:l.getD d false=true)
  (hs:su (ad b) w w') (hn:zh w' (ad b) ty (vs d).cells):MJ ks W A0 (l.setIfInBounds i true) a w' vs ad:=by
 have c:i<l.size:=by rw [h.len];exact(List.getElem?_eq_some_iff.1 hk).1
 have o:=h.at_ b _ m n;have hz:zh w (ad b) ty z:=by
  have:=o.2.2;rw [if_neg (by rw [hi];decide)] at this;exact this
 have hni:∀j:Nat,l.getD j false=true->j≠i:=λj hj e=>by rw [e,hi] at hj;cases hj
 refine⟨h.kept,hs.2.2 W o.2.1 h.below,by rw [Array.size_setIfInBounds];exact h.len,λj k hj hl=>?_,λj t v hj=>?_,λj j' t ty z st d t' ty' z' st' src' hj g hn hl s=>?_,λj t ty z st d hj hl=>?_⟩
 ·rw [wW c] at hl;by_cases e:j=i
  ·subst e;rw [hk] at hj;injection hj with hj;subst hj;trivial
  ·rw [if_neg e] at hl;have h1:=h.at_ j k hj hl;cases k with
   |old t0 v0=>exact h1
   |val t0 F0=>exact⟨h1.1,(R.run _ _ hj).1.f _ _ _ _ _ _ (R.run _ _ m).1 hz hs h1.2⟩
   |box t0 ty0 z0 st0 src0=>
     refine⟨h1.1,h1.2.1,?_⟩;by_cases e9:j=b
     ·subst e9;rw [m] at hj;injection hj with hj;injection hj with e1 e2 e3 e4 e5;subst e1 e2 e3 e4 e5;rw [wW c,if_pos rfl,if_pos rfl];exact hn
     ·have h4:st0≠i:=λe8=>by
       have:=(R.run _ _ hj).2.2.2;rw [e8,hk] at this;injection this with this;injection this with this;exact e9 this.symm
      rw [wW c,if_neg h4];exact hs.2.1 _ _ _ (h.ne _ _ _ _ _ _ _ _ _ _ _ _ hj m e9 hl n) h1.2.2
   |sto b d=>trivial
 ·rw [wW c];split
  ·rfl
  ·exact h.old j t v hj
 ·rw [wW c,if_neg (λe=>by rw [e,hk] at hj;injection hj with hj;cases hj)] at hl;rw [wW c,if_neg (λe=>by rw [e,hk] at g;injection g with g;cases g)] at s;exact h.ne j j' _ _ _ _ _ _ _ _ _ _ hj g hn hl s
 ·rw [wW c] at hl;have u:l.getD j false=true/\l.getD d false=true:=by
   by_cases e:st=i
   ·have:=(R.run _ _ hj).2.2.2;rw [e,hk] at this;injection this with this;injection this with e1 e2;subst e1 e2;exact⟨n,y⟩
   ·rw [if_neg e] at hl;exact h.closed _ _ _ _ _ _ hj hl
  rw [wW c,wW c];refine⟨?_,?_⟩
  ·split
   ·rfl
   ·exact u.1
  ·split
   ·rfl
   ·exact u.2
end
def ye.isOld:ye->Bool
 |.old _ _=>true
 |_=>false
def Ws (ks:List ye)(i:Nat):Bool:=
 match ks[i]? with
 |some (.box ..)=>true
 |_=>false
def ye.Fin (vs:Nat->Value)(ad:Nat->Nat)(W w:World)(i:Nat):ye->Prop
 |.old _ _=>True
 |.val _ F=>F (vs i) w
 |.box _ ty _ _ src=>W.heap.size<=ad i/\zh w (ad i) ty (vs src).cells
 |.sto _ _=>True
def fF (vs:Nat->Value)(ad:Nat->Nat)(W w:World):List ye->Nat->Prop
 |[],_=>True
 |k::t,i=>k.Fin vs ad W w i/\fF vs ad W w t (i+1)
def vX (vs:Nat->Value)(ad:Nat->Nat):List ye->Nat->List (Nat×Value)
 |[],_=>[]
 |.old _ _::t,i=>vX vs ad t (i+1)
 |.val s _::t,i=>(s,vs i)::vX vs ad t (i+1)
 |.box s _ _ _ _::t,i=>(s,.pointer (some ⟨ad i,0,none⟩))::vX vs ad t (i+1)
 |.sto _ _::t,i=>vX vs ad t (i+1)
theorem To {vs:Nat->Value}{ad:Nat->Nat}{W w:World}:∀(ks:List ye) (i:Nat),(∀(j:Nat) k,ks[j]?=some k->k.Fin vs ad W w (i+j))->fF vs ad W w ks i
 |[],_,_=>trivial
 |k::t,i,h=>⟨h 0 k rfl,To t (i+1) λj q hq=>by have:=h (j+1) q (by rw [qA];exact hq);rwa [show i+1+j=i+(j+1) by omega]⟩
theorem cC (vs:Nat->Value)(ad:Nat->Nat):∀(ks:List ye) (i:Nat),(vX vs ad ks i).map Prod.fst=ks.filterMap ye.slot
 |[],_=>rfl
 |.old _ _::t,i=>cC vs ad t (i+1)
 |.val s _::t,i=>congrArg (s::·) (cC vs ad t (i+1))
 |.box s _ _ _ _::t,i=>congrArg (s::·) (cC vs ad t (i+1))
 |.sto _ _::t,i=>cC vs ad t (i+1)
theorem T7 {vs:Nat->Value}{ad:Nat->Nat}{a:Act}:∀(ks:List ye) (i:Nat),(∀(j:Nat) t F,ks[j]?=some (ye.val t F)->a.tmps.getD t undef=vs (i+j))->(∀(j:Nat) t ty z st c,ks[j]?=some (ye.box t ty z st c)->a.tmps.getD t undef=.pointer (some ⟨ad (i+j),0,none⟩))->∀p ∈ vX vs ad ks i,a.tmps.getD p.1 undef=p.2
 |[],_,_,_,p,hp=>by cases hp
 |q::t,i,hv,hb,p,hp=>by
   have ih:=T7 t (i+1) (λj t' F hj=>by have:=hv (j+1) t' F (by rw [qA];exact hj);rwa [show i+1+j=i+(j+1) by omega]) (λj t' ty z st c hj=>by have:=hb (j+1) t' ty z st c (by rw [qA];exact hj);rwa [show i+1+j=i+(j+1) by omega]);cases q with
   |old _ _=>exact ih p hp
   |val s F=>
     rcases List.mem_cons.1 hp with rfl|hp
     ·exact hv 0 s F rfl
     ·exact ih p hp
   |box s ty z st c=>
     rcases List.mem_cons.1 hp with rfl|hp
     ·exact hb 0 s ty z st c rfl
     ·exact ih p hp
   |sto _ _=>exact ih p hp
def uB (P:Program)(md:Region.Mode)(B:TypeId->Array Value->Prop)(ks:List ye)(W:World)(A0:Act)(ops:Array Oper):List ye->Nat->Prop
 |[],_=>True
 |k::t,i=>k.Run P md B ks W A0 ops i/\uB P md B ks W A0 ops t (i+1)
theorem SW {P:Program}{md:Region.Mode}{B:TypeId->Array Value->Prop}{ks:List ye}{W:World}{A0:Act}{a:Array Oper}:∀(t:List ye) (i:Nat),uB P md B ks W A0 a t i->∀(j:Nat) k,t[j]?=some k->k.Run P md B ks W A0 a (i+j)
 |[],_,_,j,k,hj=>by simp at hj
 |q::t,i,h,0,k,hj=>by
   rw [qN] at hj;injection hj with hj;subst hj;exact h.1
 |q::t,i,h,j+1,k,hj=>by
   rw [qA] at hj;have:=SW t (i+1) h.2 j k hj;rwa [show i+1+j=i+(j+1) by omega] at this
def bI (md:Region.Mode):List Oper->Nat->Bool
 |[],_=>true
 |o::t,i=>(o.after.toList.all λe=> !Region.binds md e||decide (e.on<i))&&bI md t (i+1)
theorem Tr {md:Region.Mode}:∀(t:List Oper) (i:Nat),bI md t i=true->∀(j:Nat) o,t[j]?=some o->∀e ∈ o.after,Region.binds md e=true->e.on<i+j
 |[],_,_,j,o,hj=>by simp at hj
 |q::t,i,h,0,o,hj=>λe he hb=>by
   rw [qN] at hj;injection hj with hj;subst hj;unfold bI at h;rw [Bool.and_eq_true,List.all_eq_true] at h;have:=h.1 e (by simpa using he);rw [hb] at this;simpa using this
 |q::t,i,h,j+1,o,hj=>λe he hb=>by
   rw [qA] at hj;unfold bI at h;rw [Bool.and_eq_true] at h;have:=Tr t (i+1) h.2 j o hj e he hb;omega
section
variable {P:Program}{md:Region.Mode}{ks:List ye}{W:World}{B:TypeId->Array Value->Prop}{ops:Array Oper}{Q:Exit->Act->World->Prop}{l0:Array Bool}{a0:Act}{w0:World}{fuel:Nat}
theorem sO (W:World)(B:TypeId->Array Value->Prop)(ks:List ye)(hW:Below W.heap.size W w0)(C:uB P md B ks W a0 ops ks 0)
  (n:∀(vs:Nat->Value) (ad:Nat->Nat) (w:World),Below W.heap.size W w->fF vs ad W w ks 0->(∀i j:Nat,i≠j->Ws ks i=true->Ws ks j=true->ad i≠ad j)->Q .normal (vv (vX vs ad ks 0) a0) w)
  (hl:l0=(ks.map ye.isOld).toArray:=by kernel_rfl) (hn:ops.size=ks.length:=by rfl) (ha:bI md ops.toList 0=true:=by kernel_rfl) (I:gJ (ks.filterMap ye.slot)=true:=by rfl) (hd:tY l0=fuel:=by rfl):
  wpAnyH P md ops (NoPanic Q) (λw'=>Below W.heap.size W w') fuel l0 a0 w0:=by
 have R:tU P md B ks W a0 ops:=⟨λi k hi=>by have:=SW ks 0 C i k hi;rwa [xR] at this,pH I⟩;have m:∀(l:Array Bool) (a:Act) (w:World),(∃vs ad,MJ ks W a0 l a w vs ad)->Region.ready md ops l=[]->l=Array.replicate ks.length true:=by
  rintro l a w ⟨vs,ad,h⟩ hr;have K:∀i,i<ks.length->l.getD i false=true:=λi=>by
   induction i using Nat.strongRecOn with
   |_ i ih=>
     intro hi;have ho:ops[i]?=some ops[i]:=QU za;cases hx:l.getD i false with
     |true=>rfl
     |false=>
       have hm:i ∈ Region.ready md ops l:=mem_ready.2 ⟨by
        have c:i<l.size:=by rw [h.len];exact hi
        rw [QG,QU c] at hx⊢;exact hx,_,ho,λe he hb=>by
         have:=Tr _ 0 ha i _ (by rw [QR];exact ho) e he hb;exact ih e.on za za⟩
       rw [hr] at hm;cases hm
  refine Array.ext (by rw [h.len,Array.size_replicate]) λi h1 h2=>?_;have:=K i (by rw [<-h.len];exact h1);rw [QG,QU h1] at this;rw [Array.getElem_replicate];exact this
 refine PK (J:=λA0 l a w=>∃vs ad,MJ ks W A0 l a w vs ad) (L:=Array.replicate ks.length true) hd ?_ m ?_ ?_
 ·refine⟨λ_=>undef,λ_=>0,ul.refl _ _,hW,by rw [hl];simp,λi k hi h=>?_,λi t v hi=>?_,λi j t ty z st g t' ty' z' st' src' hi hj y h h'=>?_,λi t ty z st g hi h=>?_⟩
  ·rw [hl,QG,QD,qW,hi] at h;cases k with
   |old t v=>exact(R.run _ _ hi).1
   |val t F=>cases h
   |box t ty z st g=>cases h
   |sto b g=>trivial
  ·rw [hl,QG,QD,qW,hi];rfl
  ·rw [hl,QG,QD,qW,hi] at h;cases h
  ·rw [hl,QG,QD,qW,(R.run _ _ hi).2.2.2] at h;cases h
 ·rintro l a w i ⟨vs,ad,h⟩ - hi;have A:l.getD i true=false:=xw hi;have hos:=cK hi;obtain⟨k,hk⟩:∃k,ks[i]?=some k:=⟨_,qY za⟩;have hf:l.getD i false=false:=by
   have c:i<l.size:=by rw [h.len];omega
   rw [QG,QU c] at A⊢;exact A
  have H:∀(o:Oper),ops[i]?=some o->∀j,uf md o j=true->rC ks a w j:=λo ho j hj=>by
   have u:=Yo hi ho hj;unfold rC
   split
   ·rename_i t v e;exact h.at_ _ _ e u
   ·rename_i t F e;exact⟨_,h.at_ _ _ e u⟩
   ·trivial
  cases k with
  |old t v=>have:=h.old _ _ _ hk;rw [hf] at this;cases this
  |val t F=>
    obtain⟨-,-,o,ho,hg,hr⟩:=R.run _ _ hk;exact Zy ho hg λK' hK=>hr a w h.below (H o ho) K' _ λv w' hb hF=>hK.out _ _ ⟨zc h.below hb,_,_,h.val R hk hf hb hF⟩
  |box t ty z st g=>
    obtain⟨-,-,⟨o,ho,hg,hr⟩,-⟩:=R.run _ _ hk;exact Zy ho hg λK' hK=>hr a w K' _ (hK.out _ _ ⟨zc h.below (fi _ _),_,_,h.box R hk hf⟩)
  |sto b g=>
    obtain⟨o,ho,hg,E,G,tb,ty,z,ts,F,s,D,hr⟩:=R.run _ _ hk;have hB:=Yo hi ho E;have hS:=Yo hi ho G;have h1:=h.at_ _ _ s hB;have h2:=h.at_ _ _ D hS;have hz:=h1.2.2;rw [if_neg (by rw [hf];decide)] at hz;exact Zy ho hg λK' hK=>hr a w _ _ h1.1 h2.1 h2.2 hz K' _ λw' hs hn=>hK.out _ _ ⟨hs.2.2 W h1.2.1 h.below,_,_,h.sto R hk hf s hB hS hs hn⟩
 ·rintro a w ⟨vs,ad,h⟩;have d:∀i,i<ks.length->(Array.replicate ks.length true).getD i false=true:=λi hi=>by
   rw [QG,Array.getElem?_replicate,if_pos hi];rfl
  have c:∀(i:Nat) k,ks[i]?=some k->i<ks.length:=λi k hi=>(List.getElem?_eq_some_iff.1 hi).1;have hr:Region.ready md ops (Array.replicate ks.length true)=[]:=List.eq_nil_iff_forall_not_mem.2 λi hi=>by
   have h1:=xw hi;have h2:=cK hi;rw [QG,Array.getElem?_replicate,if_pos za] at h1;cases h1
  refine wpAnyH_done hr (NoPanic.normal ?_) _;rw [h.kept.eq (vX vs ad ks 0) (cC vs ad ks 0) (T7 ks 0 (λj t F hj=>by rw [xR];exact(h.at_ _ _ hj (d _ (c _ _ hj))).1) (λj t ty z st g hj=>by rw [xR];exact(h.at_ _ _ hj (d _ (c _ _ hj))).1))];refine n vs ad w h.below (To ks 0 λj k hj=>?_) λi j y hi hj=>?_
  ·rw [xR];have h1:=h.at_ _ _ hj (d _ (c _ _ hj));cases k with
   |old _ _=>trivial
   |val t F=>exact h1.2
   |box t ty z st g=>
     have h2:=h1.2.2;rw [if_pos (d _ (c _ _ (R.run _ _ hj).2.2.2))] at h2;exact⟨h1.2.1,h2⟩
   |sto _ _=>trivial
  ·unfold Ws at hi hj
   split at hi
   ·rename_i e
    split at hj
    ·rename_i e'
     exact h.ne _ _ _ _ _ _ _ _ _ _ _ _ e e' y (d _ (c _ _ e)) (d _ (c _ _ e'))
    ·cases hj
   ·cases hi
theorem xy {v:Value}{tl:List ye}(h:uB P md B ks W a0 ops tl (i+1))(h1:a0.tmps.getD t undef=v:=by kernel_rfl)(h2:(ks.filterMap ye.slot).all (λy=>y !=t)=true:=by rfl):uB P md B ks W a0 ops (.old t v::tl) i:=⟨⟨h1,jD h2⟩,h⟩
theorem xn {F:Value->World->Prop}{tl:List ye}{o:Oper}(h:uB P md B ks W a0 ops tl (i+1))(hr:kO P md ks W o t F) [hf:Kf B F] (ho:ops[i]?=some o:=by simp only [QD,qA,qN];rfl)(hg:o.guard=none:=by rfl)(ht:Nat.blt t a0.tmps.size=true:=by rfl):uB P md B ks W a0 ops (.val t F::tl) i:=⟨⟨hf,(by rw [Nat.blt_eq] at ht;exact ht),o,ho,hg,hr⟩,h⟩
theorem ut {tl:List ye}{o:Oper}(h:uB P md B ks W a0 ops tl (i+1))(ho:ops[i]?=some o:=by simp only [QD,qA,qN];rfl)(hr:kM P o t ty z:=by intro A w K Q h;go_simp;exact h)(hz:B ty z:=by first|exact ZQ|exact sy|exact yb.s3 _ _ _ _ _ _ _|exact⟨rfl,zf,zf⟩)(hg:o.guard=none:=by rfl)(ht:Nat.blt t a0.tmps.size=true:=by rfl)(hs:ks[st]?=some (.sto i a):=by rfl):uB P md B ks W a0 ops (.box t ty z st a::tl) i:=⟨⟨hz,(by rw [Nat.blt_eq] at ht;exact ht),⟨o,ho,hg,hr⟩,hs⟩,h⟩
theorem uu {b tb ts:Nat}{F:Value->World->Prop}{tl:List ye}{o:Oper}(h:uB P md B ks W a0 ops tl (i+1))(hb:ks[b]?=some (.box tb ty z i a):=by rfl)(hk:ks[a]?=some (.val ts F):=by rfl)(ho:ops[i]?=some o:=by simp only [QD,qA,qN];rfl)(hr:kN P o tb ty z ts F:=by first|(intro A w g v e1 e2 hF hk K Q k;obtain⟨B,m,d,rfl,h⟩:=hF;have c0:=hk.cell 0;have f0:=hk.frozen 0;go_simp;exact k _ (WN _ _ _) (eS hk _))|(intro A w g v e1 e2 hF hk K Q k;obtain⟨b,B,m,d,rfl,h⟩:=hF;obtain⟨c0,f0,c1,f1⟩:=vh hk (.bool b);go_simp;exact k _ (eT _ _ _ _) (vg hk _ _))|(intro A w g v e1 e2 hF hk K Q k;obtain⟨B,d,rfl,h⟩:=hF;obtain⟨c0,f0,c1,f1⟩:=vh hk (.slice B _ d);go_simp;exact k _ (eT _ _ _ _) (vg hk _ _))|(intro A w g v e1 e2 hF hk K Q k;obtain⟨b,B,m,d,E,n,f,rfl,h⟩:=hF;obtain⟨c0,f0,c1,f1,c2,f2⟩:=yf hk (.bool b) (.slice B m d);go_simp;exact k _ (S9 _ _ _ _ _) (ym hk _ _ _)))(hg:o.guard=none:=by rfl)(h1:uf md o b=true:=by rfl)(h2:uf md o a=true:=by rfl):uB P md B ks W a0 ops (.sto b a::tl) i:=⟨⟨o,ho,hg,h1,h2,tb,ty,z,ts,F,hb,hk,hr⟩,h⟩
theorem sQ:uB P md B ks W a0 ops [] i:=trivial
theorem vd {a:Act}{F:Value->World->Prop}(h:rC ks a w j)(hk:ks[j]?=some (.val t F)):∃v,a.tmps.getD t undef=v/\F v w:=by
 unfold rC at h;rw [hk] at h;exact h
theorem tD (j:Nat){x t i:Nat}{F:Value->World->Prop}{tl:List ye}{o:Oper}(h:uB P md B ks W a0 ops tl (i+1)) [hf:Kf B F] (ho:ops[i]?=some o:=by simp only [QD,qA,qN];rfl)(hk:ks[j]?=some (.val x F):=by rfl)(a:o.op=.move (.tmp x)\/o.op=.assign (.tmp x):=by first|exact .inl rfl|exact .inr rfl)(hd:o.dst=some t:=by rfl)(hj:uf md o j=true:=by rfl)(hg:o.guard=none:=by rfl)(ht:Nat.blt t a0.tmps.size=true:=by rfl):uB P md B ks W a0 ops (.val t F::tl) i:=
 xn h (λA w hB h K Q k=>by
  obtain⟨v,e,hF⟩:=vd (h j hj) hk;refine N3 a e ?_;rw [hd];exact k v w (qZ _ _) hF) ho hg ht
theorem vQ (j:Nat){x t n i:Nat}{F G:Value->World->Prop}{tl:List ye}{o:Oper}(hx:∀v w,G v w->∃vs u,v=.tuple vs/\vs[n]?=some u/\F u w)(h:uB P md B ks W a0 ops tl (i+1)) [hf:Kf B F] (ho:ops[i]?=some o:=by simp only [QD,qA,qN];rfl)(hk:ks[j]?=some (.val x G):=by rfl)(a:o.op=.extract (.tmp x) n:=by rfl)(hd:o.dst=some t:=by rfl)(hj:uf md o j=true:=by rfl)(hg:o.guard=none:=by rfl)(ht:Nat.blt t a0.tmps.size=true:=by rfl):uB P md B ks W a0 ops (.val t F::tl) i:=
 xn h (λA w hB h K Q k=>by
  obtain⟨v,e,hF⟩:=vd (h j hj) hk;obtain⟨vs,u,e1,e2,e3⟩:=hx v w hF;subst e1;refine Ql a e e2 ?_;rw [hd];exact k u w (qZ _ _) e3) ho hg ht
def uo:Nat->List ye->List ye
 |0,l=>l
 |n+1,l=>.old 99999 undef::uo n l
theorem sP {tl:List ye}(n i':Nat)(h:uB P md B ks W a0 ops tl i')(e:i+n=i':=by rfl)(hs:a0.tmps.getD 99999 undef=undef:=by kernel_rfl)(h2:(ks.filterMap ye.slot).all (λy=>y !=99999)=true:=by rfl):uB P md B ks W a0 ops (uo n tl) i:=by
 subst e
 induction n generalizing i with
 |zero=>exact h
 |succ n ih=>exact⟨⟨hs,jD h2⟩,ih (by rwa [show i+1+n=i+(n+1) by omega])⟩
theorem Xj {vs:Nat->Value}{ad:Nat->Nat}{w:World}:∀(t:List ye) (i:Nat),fF vs ad W w t i->∀(j:Nat) k,t[j]?=some k->k.Fin vs ad W w (i+j)
 |[],_,_,j,k,hj=>by simp at hj
 |q::t,i,h,0,k,hj=>by
   rw [qN] at hj;injection hj with hj;subst hj;exact h.1
 |q::t,i,h,j+1,k,hj=>by
   rw [qA] at hj;have:=Xj t (i+1) h.2 j k hj;rwa [show i+1+j=i+(j+1) by omega] at this
theorem gI {vs:Nat->Value}{F:Value->World->Prop}(h:fF vs ad W w ks 0)(j:Nat)(hk:ks[j]?=some (.val t F):=by rfl):F (vs j) w:=by
 have:=Xj ks 0 h j _ hk;rwa [xR] at this
theorem gH {vs:Nat->Value}(h:fF vs ad W w ks 0)(j:Nat)(hk:ks[j]?=some (.box t ty z st a):=by rfl):W.heap.size<=ad j/\zh w (ad j) ty (vs a).cells:=by
 have:=Xj ks 0 h j _ hk;rwa [xR] at this
end
