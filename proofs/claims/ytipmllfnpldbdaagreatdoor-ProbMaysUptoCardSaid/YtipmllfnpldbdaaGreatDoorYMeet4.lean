/- What this claim leans on. -/
import Derived.Test.YtipmllfnpldbdaaGreatDoorYW8Far
set_option linter.unusedVariables false
set_option linter.unusedSimpArgs false
namespace Go.Proofs.YtipmllfnpldbdaaGreatDoor
open Go Go.RowKit
set_option maxHeartbeats 16000000
variable {z:Array Value}{a i j t:Nat}{w:World}
def ur (g:Nat)(w w':World):Prop:=xe g w w'/\(∀k t cs,k≠g->zi w k t cs->zi w' k t cs)/\∀W:World,W.heap.size<=g->Below W.heap.size W w->Below W.heap.size W w'
theorem ur.refl (g:Nat)(w:World):ur g w w:=⟨xe.refl g w,λ_ _ _ _ h=>h,λ_ _ h=>h⟩
theorem ur.set_ {g:Nat}{w':World}(h:ur g w w')(j:Nat)(v:Value):ur g w (w'.setCell ⟨g,j,none⟩ v):=
 ⟨h.1.set_ j v,λk t cs hk hb=>zi.far (h.2.1 k t cs hk hb) hk v,λW hg hb=>zH v hg (h.2.2 W hg hb)⟩
theorem fw (w:World)(g:Nat)(a:Value):ur g w (w.setCell ⟨g,0,none⟩ a):=(ur.refl g w).set_ 0 a
theorem jY (w:World)(g:Nat)(a b:Value):ur g w ((w.setCell ⟨g,0,none⟩ a).setCell ⟨g,1,none⟩ b):=(fw w g a).set_ 1 b
theorem Zw (w:World)(g:Nat)(a b c:Value):ur g w (((w.setCell ⟨g,0,none⟩ a).setCell ⟨g,1,none⟩ b).setCell ⟨g,2,none⟩ c):=(jY w g a b).set_ 2 c
inductive zP where
 |old (t:Nat) (v:Value)
 |val (t:Nat) (F:Value->World->Prop)
 |box (t:Nat) (ty:TypeId) (z:Array Value) (st src:Nat)
 |sto (b src:Nat)
class Kf (B : TypeId → Array Value → Prop) (F : Value → World → Prop) : Prop where
 b:∀v w w',Below w.heap.size w w'->F v w->F v w'
 f:∀v w w' g t cs,B t cs->zi w g t cs->ur g w w'->F v w->F v w'
def pP {α:Type}(f:Nat->α)(i:Nat)(v:α):Nat->α:=λj=>if j=i then v else f j
def ww (md:Region.Mode)(o:Oper)(j:Nat):Bool:=o.after.toList.any λe=>Region.binds md e&&e.on==j
theorem iz {md:Region.Mode}{d:Array Oper}{l:Array Bool}{o:Oper}(hi:i ∈ Region.ready md d l)(ho:d[i]?=some o)(hd:ww md o j=true):l.getD j false=true:=by
 obtain⟨_,o',a,h⟩:=mem_ready.1 hi;rw [ho] at a;cases a;obtain⟨e,he,h2⟩:=List.any_eq_true.1 hd;rw [Bool.and_eq_true] at h2;rw [<-eq_of_beq h2.2];exact h e (by simpa using he) h2.1
def zP.At (l:Array Bool)(vs:Nat->Value)(ad:Nat->Nat)(W:World)(a:Act)(w:World)(i:Nat):zP->Prop
 |.old t v=>a.tmps.getD t undef=v
 |.val t F=>a.tmps.getD t undef=vs i/\F (vs i) w
 |.box t ty z st src=>a.tmps.getD t undef=.pointer (some ⟨ad i,0,none⟩)/\W.heap.size<=ad i/\zi w (ad i) ty (if l.getD st false=true then(vs src).cells else z)
 |.sto _ _=>True
def zP.slot:zP->Option Nat
 |.old _ _=>none
 |.val t _=>some t
 |.box t _ _ _ _=>some t
 |.sto _ _=>none
def uR (ks:List zP)(a:Act)(w:World)(j:Nat):Prop:=
 match ks[j]? with
 |some (.old t v)=>a.tmps.getD t undef=v
 |some (.val t F)=>∃v,a.tmps.getD t undef=v/\F v w
 |_=>True
def kF:List Nat->Bool
 |[]=>true
 |x::xs=>xs.all (λy=>y !=x)&&kF xs
theorem ld {xs:List Nat}(h:xs.all (λy=>y !=t)=true):t ∉ xs:=λhm=>by
 have:=List.all_eq_true.1 h t hm;simp at this
theorem sf:∀{xs:List Nat},kF xs=true->xs.Nodup
 |[],_=>List.nodup_nil
 |x::xs,h=>by
   unfold kF at h;rw [Bool.and_eq_true] at h;exact List.nodup_cons.2 ⟨ld h.1,sf h.2⟩
section
variable {P:Program}{md:Region.Mode}{ks:List zP}{W:World}{A0:Act}{B:TypeId->Array Value->Prop}
def oo (P:Program)(md:Region.Mode)(ks:List zP)(W:World)(o:Oper)(t:Nat)(F:Value->World->Prop):Prop:=
 ∀A w,Below W.heap.size W w->(∀j,ww md o j=true->uR ks A w j)->∀(K:Act->World->Prop) (Q:Exit->Act->World->Prop),(∀v w',Below w.heap.size w w'->F v w'->K (A.put (some t) v) w')->Oper.wp P o A w K Q
def ol (P:Program)(o:Oper)(t:Nat)(ty:TypeId)(z:Array Value):Prop:=
 ∀(A:Act) (w:World) (K:Act->World->Prop) (Q:Exit->Act->World->Prop),K (A.put (some t) (.pointer (some ⟨w.heap.size,0,none⟩))) (w.alloc (.cells z ty))->Oper.wp P o A w K Q
def om (P:Program)(o:Oper)(tb:Nat)(ty:TypeId)(z:Array Value)(ts:Nat)(F:Value->World->Prop):Prop:=
 ∀(A:Act) (w:World) (g:Nat) (v:Value),A.tmps.getD tb undef=.pointer (some ⟨g,0,none⟩)->A.tmps.getD ts undef=v->F v w->zi w g ty z->∀(K:Act->World->Prop) (Q:Exit->Act->World->Prop),(∀w',ur g w w'->zi w' g ty v.cells->K A w')->Oper.wp P o A w K Q
def zP.Run (P:Program)(md:Region.Mode)(B:TypeId->Array Value->Prop)(ks:List zP)(W:World)(A0:Act)(ops:Array Oper)(i:Nat):zP->Prop
 |.old t v=>A0.tmps.getD t undef=v/\t ∉ ks.filterMap zP.slot
 |.val t F=>Kf B F/\t<A0.tmps.size/\∃o,ops[i]?=some o/\o.guard=none/\oo P md ks W o t F
 |.box t ty z st src=>B ty z/\t<A0.tmps.size/\(∃o,ops[i]?=some o/\o.guard=none/\ol P o t ty z)/\ks[st]?=some (.sto i src)
 |.sto b src=>∃o,ops[i]?=some o/\o.guard=none/\ww md o b=true/\ww md o src=true/\∃tb ty z ts F,ks[b]?=some (.box tb ty z i src)/\ks[src]?=some (.val ts F)/\om P o tb ty z ts F
structure MJ (ks:List zP)(W:World)(A0:Act)(l:Array Bool)(a:Act)(w:World)(vs:Nat->Value)(ad:Nat->Nat):Prop where
 kept:um (ks.filterMap zP.slot) A0 a
 below:Below W.heap.size W w
 len:l.size=ks.length
 at_:∀(i:Nat) k,ks[i]?=some k->l.getD i false=true->k.At l vs ad W a w i
 old:∀(i:Nat) t v,ks[i]?=some (zP.old t v)->l.getD i false=true
 ne:∀(i j:Nat) t ty z st src t' ty' z' st' src',ks[i]?=some (zP.box t ty z st src)->ks[j]?=some (zP.box t' ty' z' st' src')->i≠j->l.getD i false=true->l.getD j false=true->ad i≠ad j
 closed:∀(i:Nat) t ty z st src,ks[i]?=some (zP.box t ty z st src)->l.getD st false=true->l.getD i false=true/\l.getD src false=true
theorem xk {l:Array Bool}(h:i<l.size):(l.setIfInBounds i true).getD j false=if j=i then true else l.getD j false:=by
 simp only [QZ];by_cases e:j=i
 ·subst e;rw [if_pos rfl,QR h];rfl
 ·rw [if_neg e,qB (Ne.symm e)]
theorem ja {k k':zP}{t':Nat}(hn:(ks.filterMap zP.slot).Nodup)(hi:ks[i]?=some k)(hj:ks[j]?=some k')(a:i≠j)(h:k.slot=some t)(h':k'.slot=some t'):t≠t':=by
 intro e;subst e
 induction ks generalizing i j with
 |nil=>simp at hi
 |cons x xs ih=>
   have hx:(xs.filterMap zP.slot).Nodup:=by
    rw [List.filterMap_cons] at hn
    split at hn
    ·exact hn
    ·exact(List.nodup_cons.1 hn).2
   have d:∀(m:Nat) (q:zP),xs[m]?=some q->q.slot=some t->x.slot=some t->False:=λm q hm hq g=>by
    rw [List.filterMap_cons,g] at hn;exact(List.nodup_cons.1 hn).1 (List.mem_filterMap.2 ⟨q,QN hm,hq⟩)
   cases i with
   |zero=>
     cases j with
     |zero=>exact a rfl
     |succ j=>
       rw [qW] at hi;rw [qR] at hj;injection hi with hi;subst hi;exact d j k' hj h' h
   |succ i=>
     rw [qR] at hi;cases j with
     |zero=>
       rw [qW] at hj;injection hj with hj;subst hj;exact d i k hi h h'
     |succ j=>
       rw [qR] at hj;exact ih hx hi hj (λe=>a (by rw [e]))
variable {ops:Array Oper}{l:Array Bool}{a:Act}{w w':World}{vs:Nat->Value}{ad:Nat->Nat}{i:Nat}
theorem mf {α:Type}(f:Nat->α)(i:Nat)(v:α):pP f i v i=v:=if_pos rfl
theorem rJ {α:Type}(f:Nat->α){i j:Nat}(h:j≠i)(v:α):pP f i v j=f j:=if_neg h
theorem kZ {k:zP}(hj:ks[i]?=some k)(h:k.slot=some t):t ∈ ks.filterMap zP.slot:=List.mem_filterMap.2 ⟨k,QN hj,h⟩
structure vD (P:Program)(md:Region.Mode)(B:TypeId->Array Value->Prop)(ks:List zP)(W:World)(A0:Act)(ops:Array Oper):Prop where
 run:∀(i:Nat) k,ks[i]?=some k->k.Run P md B ks W A0 ops i
 nd:(ks.filterMap zP.slot).Nodup
theorem MJ.val (R:vD P md B ks W A0 ops)(h:MJ ks W A0 l a w vs ad){t:Nat}{F:Value->World->Prop}{v:Value}(hk:ks[i]?=some (.val t F))(hi:l.getD i false=false)(hb:Below w.heap.size w w')(hF:F v w'):
  MJ ks W A0 (l.setIfInBounds i true) (a.put (some t) v) w' (pP vs i v) ad:=by
 have d:i<l.size:=by rw [h.len];exact(List.getElem?_eq_some_iff.1 hk).1
 have x:∀(j:Nat) t ty z st g,ks[j]?=some (zP.box t ty z st g)->st≠i:=λj t ty z st g hj e=>by
  have:=(R.run j _ hj).2.2.2;rw [e,hk] at this;injection this with this;cases this
 refine⟨h.kept.put (kZ hk rfl) v,ze h.below hb,by rw [Array.size_setIfInBounds];exact h.len,λj k hj hl=>?_,λj t v hj=>?_,λj j' t ty z st g t' ty' z' st' src' hj m hn hl u=>?_,λj t ty z st g hj hl=>?_⟩
 ·rw [xk d] at hl;by_cases e:j=i
  ·subst e;rw [hk] at hj;injection hj with hj;subst hj;refine⟨?_,?_⟩
   ·rw [mf];exact sA (h.kept.lt (R.run _ _ hk).2.1) v
   ·rw [mf];exact hF
  ·rw [if_neg e] at hl;have h1:=h.at_ j k hj hl;cases k with
   |old t0 v0=>exact(oN (λe9=>(R.run _ _ hj).2 (by rw [e9];exact kZ hk rfl)) v).trans h1
   |val t0 F0=>
     refine⟨(oN (ja R.nd hj hk e rfl rfl) v).trans ?_,?_⟩
     ·rw [rJ _ e];exact h1.1
     ·rw [rJ _ e];exact(R.run _ _ hj).1.b _ _ _ hb h1.2
   |box t0 ty z st g=>
     refine⟨(oN (ja R.nd hj hk e rfl rfl) v).trans h1.1,h1.2.1,?_⟩;rw [xk d,if_neg (x _ _ _ _ _ _ hj)];have h3:=zj hb h1.2.2;by_cases hs:l.getD st false=true
     ·rw [if_pos hs] at h3⊢;have h4:=(h.closed _ _ _ _ _ _ hj hs).2;rw [rJ _ (λe9=>by rw [e9,hi] at h4;cases h4)];exact h3
     ·rw [if_neg hs] at h3⊢;exact h3
   |sto b g=>trivial
 ·rw [xk d];split
  ·rfl
  ·exact h.old j t v hj
 ·rw [xk d,if_neg (λe=>by rw [e,hk] at hj;injection hj with hj;cases hj)] at hl;rw [xk d,if_neg (λe=>by rw [e,hk] at m;injection m with m;cases m)] at u;exact h.ne j j' _ _ _ _ _ _ _ _ _ _ hj m hn hl u
 ·rw [xk d,if_neg (x _ _ _ _ _ _ hj)] at hl;have:=h.closed _ _ _ _ _ _ hj hl;rw [xk d,xk d];refine⟨?_,?_⟩
  ·split
   ·rfl
   ·exact this.1
  ·split
   ·rfl
   ·exact this.2
theorem MJ.box (R:vD P md B ks W A0 ops)(h:MJ ks W A0 l a w vs ad){t:Nat}{ty:TypeId}{z:Array Value}{st d:Nat}(hk:ks[i]?=some (.box t ty z st d))(hi:l.getD i false=false):
  MJ ks W A0 (l.setIfInBounds i true) (a.put (some t) (.pointer (some ⟨w.heap.size,0,none⟩))) (w.alloc (.cells z ty)) vs (pP ad i w.heap.size):=by
 have g:i<l.size:=by rw [h.len];exact(List.getElem?_eq_some_iff.1 hk).1
 have hb:=bZ w (.cells z ty);have u:∀(j:Nat) t ty z st d,ks[j]?=some (zP.box t ty z st d)->st≠i:=λj t ty z st d hj e=>by
  have:=(R.run j _ hj).2.2.2;rw [e,hk] at this;injection this with this;cases this
 have y:∀(j:Nat) t ty z st d,ks[j]?=some (zP.box t ty z st d)->l.getD j false=true->ad j<w.heap.size:=λj t ty z st d hj hl=>(h.at_ j _ hj hl).2.2.lt;refine⟨h.kept.put (kZ hk rfl) _,ze h.below hb,by rw [Array.size_setIfInBounds];exact h.len,λj k hj hl=>?_,λj t v hj=>?_,λj j' t ty z st d t' ty' z' st' src' hj x hn hl m=>?_,λj t ty z st d hj hl=>?_⟩
 ·rw [xk g] at hl;by_cases e:j=i
  ·subst e;rw [hk] at hj;injection hj with hj;subst hj;refine⟨?_,?_,?_⟩
   ·rw [mf];exact sA (h.kept.lt (R.run _ _ hk).2.1) _
   ·rw [mf];exact h.below.size
   ·rw [mf,xk g,if_neg (u _ _ _ _ _ _ hk),if_neg (λhs=>by have:=(h.closed _ _ _ _ _ _ hk hs).1;rw [hi] at this;cases this)];exact heap_alloc_new w _
  ·rw [if_neg e] at hl;have h1:=h.at_ j k hj hl;cases k with
   |old t0 v0=>exact(oN (λe9=>(R.run _ _ hj).2 (by rw [e9];exact kZ hk rfl)) _).trans h1
   |val t0 F0=>exact⟨(oN (ja R.nd hj hk e rfl rfl) _).trans h1.1,(R.run _ _ hj).1.b _ _ _ hb h1.2⟩
   |box t0 ty0 z0 st0 src0=>
     refine⟨(oN (ja R.nd hj hk e rfl rfl) _).trans ?_,?_,?_⟩
     ·rw [rJ _ e];exact h1.1
     ·rw [rJ _ e];exact h1.2.1
     ·rw [rJ _ e,xk g,if_neg (u _ _ _ _ _ _ hj)];exact zj hb h1.2.2
   |sto b d=>trivial
 ·rw [xk g];split
  ·rfl
  ·exact h.old j t v hj
 ·rw [xk g] at hl m;by_cases e:j=i
  ·have e':j'≠i:=λe9=>hn (by rw [e,e9]);rw [if_neg e'] at m;rw [e,mf,rJ _ e'];have:=y _ _ _ _ _ _ x m;omega
  ·rw [if_neg e] at hl;by_cases e':j'=i
   ·rw [e',mf,rJ _ e];have:=y _ _ _ _ _ _ hj hl;omega
   ·rw [if_neg e'] at m;rw [rJ _ e,rJ _ e'];exact h.ne j j' _ _ _ _ _ _ _ _ _ _ hj x hn hl m
 ·rw [xk g,if_neg (u _ _ _ _ _ _ hj)] at hl;have:=h.closed _ _ _ _ _ _ hj hl;rw [xk g,xk g];refine⟨?_,?_⟩
  ·split
   ·rfl
   ·exact this.1
  ·split
   ·rfl
   ·exact this.2
theorem MJ.sto (R:vD P md B ks W A0 ops)(h:MJ ks W A0 l a w vs ad){b g tb:Nat}{ty:TypeId}{z:Array Value}(hk:ks[i]?=some (.sto b g))(hi:l.getD i false=false)(u:ks[b]?=some (.box tb ty z i g))(x:l.getD b false=true)(D:l.getD g false=true)
  (hs:ur (ad b) w w') (hn:zi w' (ad b) ty (vs g).cells):MJ ks W A0 (l.setIfInBounds i true) a w' vs ad:=by
 have d:i<l.size:=by rw [h.len];exact(List.getElem?_eq_some_iff.1 hk).1
 have y:=h.at_ b _ u x;have hz:zi w (ad b) ty z:=by
  have:=y.2.2;rw [if_neg (by rw [hi];decide)] at this;exact this
 have hni:∀j:Nat,l.getD j false=true->j≠i:=λj hj e=>by rw [e,hi] at hj;cases hj
 refine⟨h.kept,hs.2.2 W y.2.1 h.below,by rw [Array.size_setIfInBounds];exact h.len,λj k hj hl=>?_,λj t v hj=>?_,λj j' t ty z st g t' ty' z' st' src' hj m hn hl A=>?_,λj t ty z st g hj hl=>?_⟩
 ·rw [xk d] at hl;by_cases e:j=i
  ·subst e;rw [hk] at hj;injection hj with hj;subst hj;trivial
  ·rw [if_neg e] at hl;have h1:=h.at_ j k hj hl;cases k with
   |old t0 v0=>exact h1
   |val t0 F0=>exact⟨h1.1,(R.run _ _ hj).1.f _ _ _ _ _ _ (R.run _ _ u).1 hz hs h1.2⟩
   |box t0 ty0 z0 st0 src0=>
     refine⟨h1.1,h1.2.1,?_⟩;by_cases e9:j=b
     ·subst e9;rw [u] at hj;injection hj with hj;injection hj with e1 e2 e3 e4 e5;subst e1 e2 e3 e4 e5;rw [xk d,if_pos rfl,if_pos rfl];exact hn
     ·have h4:st0≠i:=λe8=>by
       have:=(R.run _ _ hj).2.2.2;rw [e8,hk] at this;injection this with this;injection this with this;exact e9 this.symm
      rw [xk d,if_neg h4];exact hs.2.1 _ _ _ (h.ne _ _ _ _ _ _ _ _ _ _ _ _ hj u e9 hl x) h1.2.2
   |sto b g=>trivial
 ·rw [xk d];split
  ·rfl
  ·exact h.old j t v hj
 ·rw [xk d,if_neg (λe=>by rw [e,hk] at hj;injection hj with hj;cases hj)] at hl;rw [xk d,if_neg (λe=>by rw [e,hk] at m;injection m with m;cases m)] at A;exact h.ne j j' _ _ _ _ _ _ _ _ _ _ hj m hn hl A
 ·rw [xk d] at hl;have C:l.getD j false=true/\l.getD g false=true:=by
   by_cases e:st=i
   ·have:=(R.run _ _ hj).2.2.2;rw [e,hk] at this;injection this with this;injection this with e1 e2;subst e1 e2;exact⟨x,D⟩
   ·rw [if_neg e] at hl;exact h.closed _ _ _ _ _ _ hj hl
  rw [xk d,xk d];refine⟨?_,?_⟩
  ·split
   ·rfl
   ·exact C.1
  ·split
   ·rfl
   ·exact C.2
end
def zP.isOld:zP->Bool
 |.old _ _=>true
 |_=>false
def fm (ks:List zP)(i:Nat):Bool:=
 match ks[i]? with
 |some (.box ..)=>true
 |_=>false
def zP.Fin (vs:Nat->Value)(ad:Nat->Nat)(W w:World)(i:Nat):zP->Prop
 |.old _ _=>True
 |.val _ F=>F (vs i) w
 |.box _ ty _ _ src=>W.heap.size<=ad i/\zi w (ad i) ty (vs src).cells
 |.sto _ _=>True
def uQ (vs:Nat->Value)(ad:Nat->Nat)(W w:World):List zP->Nat->Prop
 |[],_=>True
 |k::t,i=>k.Fin vs ad W w i/\uQ vs ad W w t (i+1)
def vN (vs:Nat->Value)(ad:Nat->Nat):List zP->Nat->List (Nat×Value)
 |[],_=>[]
 |.old _ _::t,i=>vN vs ad t (i+1)
 |.val s _::t,i=>(s,vs i)::vN vs ad t (i+1)
 |.box s _ _ _ _::t,i=>(s,.pointer (some ⟨ad i,0,none⟩))::vN vs ad t (i+1)
 |.sto _ _::t,i=>vN vs ad t (i+1)
theorem bF {vs:Nat->Value}{ad:Nat->Nat}{W w:World}:∀(ks:List zP) (i:Nat),(∀(j:Nat) k,ks[j]?=some k->k.Fin vs ad W w (i+j))->uQ vs ad W w ks i
 |[],_,_=>trivial
 |k::t,i,h=>⟨h 0 k rfl,bF t (i+1) λj q hq=>by have:=h (j+1) q (by rw [qR];exact hq);rwa [show i+1+j=i+(j+1) by omega]⟩
theorem lP (vs:Nat->Value)(ad:Nat->Nat):∀(ks:List zP) (i:Nat),(vN vs ad ks i).map Prod.fst=ks.filterMap zP.slot
 |[],_=>rfl
 |.old _ _::t,i=>lP vs ad t (i+1)
 |.val s _::t,i=>congrArg (s::·) (lP vs ad t (i+1))
 |.box s _ _ _ _::t,i=>congrArg (s::·) (lP vs ad t (i+1))
 |.sto _ _::t,i=>lP vs ad t (i+1)
theorem bR {vs:Nat->Value}{ad:Nat->Nat}{a:Act}:∀(ks:List zP) (i:Nat),(∀(j:Nat) t F,ks[j]?=some (zP.val t F)->a.tmps.getD t undef=vs (i+j))->(∀(j:Nat) t ty z st d,ks[j]?=some (zP.box t ty z st d)->a.tmps.getD t undef=.pointer (some ⟨ad (i+j),0,none⟩))->∀p ∈ vN vs ad ks i,a.tmps.getD p.1 undef=p.2
 |[],_,_,_,p,hp=>by cases hp
 |q::t,i,hv,hb,p,hp=>by
   have ih:=bR t (i+1) (λj t' F hj=>by have:=hv (j+1) t' F (by rw [qR];exact hj);rwa [show i+1+j=i+(j+1) by omega]) (λj t' ty z st d hj=>by have:=hb (j+1) t' ty z st d (by rw [qR];exact hj);rwa [show i+1+j=i+(j+1) by omega]);cases q with
   |old _ _=>exact ih p hp
   |val s F=>
     rcases List.mem_cons.1 hp with rfl|hp
     ·exact hv 0 s F rfl
     ·exact ih p hp
   |box s ty z st d=>
     rcases List.mem_cons.1 hp with rfl|hp
     ·exact hb 0 s ty z st d rfl
     ·exact ih p hp
   |sto _ _=>exact ih p hp
def vf (P:Program)(md:Region.Mode)(B:TypeId->Array Value->Prop)(ks:List zP)(W:World)(A0:Act)(ops:Array Oper):List zP->Nat->Prop
 |[],_=>True
 |k::t,i=>k.Run P md B ks W A0 ops i/\vf P md B ks W A0 ops t (i+1)
theorem aL {P:Program}{md:Region.Mode}{B:TypeId->Array Value->Prop}{ks:List zP}{W:World}{A0:Act}{a:Array Oper}:∀(t:List zP) (i:Nat),vf P md B ks W A0 a t i->∀(j:Nat) k,t[j]?=some k->k.Run P md B ks W A0 a (i+j)
 |[],_,_,j,k,hj=>by simp at hj
 |q::t,i,h,0,k,hj=>by
   rw [qW] at hj;injection hj with hj;subst hj;exact h.1
 |q::t,i,h,j+1,k,hj=>by
   rw [qR] at hj;have:=aL t (i+1) h.2 j k hj;rwa [show i+1+j=i+(j+1) by omega] at this
def kz (md:Region.Mode):List Oper->Nat->Bool
 |[],_=>true
 |o::t,i=>(o.after.toList.all λe=> !Region.binds md e||decide (e.on<i))&&kz md t (i+1)
theorem bG {md:Region.Mode}:∀(t:List Oper) (i:Nat),kz md t i=true->∀(j:Nat) o,t[j]?=some o->∀e ∈ o.after,Region.binds md e=true->e.on<i+j
 |[],_,_,j,o,hj=>by simp at hj
 |q::t,i,h,0,o,hj=>λe he hb=>by
   rw [qW] at hj;injection hj with hj;subst hj;unfold kz at h;rw [Bool.and_eq_true,List.all_eq_true] at h;have:=h.1 e (by simpa using he);rw [hb] at this;simpa using this
 |q::t,i,h,j+1,o,hj=>λe he hb=>by
   rw [qR] at hj;unfold kz at h;rw [Bool.and_eq_true] at h;have:=bG t (i+1) h.2 j o hj e he hb;omega
section
variable {P:Program}{md:Region.Mode}{ks:List zP}{W:World}{B:TypeId->Array Value->Prop}{ops:Array Oper}{Q:Exit->Act->World->Prop}{l0:Array Bool}{a0:Act}{w0:World}{fuel:Nat}
theorem ms (W:World)(B:TypeId->Array Value->Prop)(ks:List zP)(hW:Below W.heap.size W w0)(E:vf P md B ks W a0 ops ks 0)
  (x:∀(vs:Nat->Value) (ad:Nat->Nat) (w:World),Below W.heap.size W w->uQ vs ad W w ks 0->(∀i j:Nat,i≠j->fm ks i=true->fm ks j=true->ad i≠ad j)->Q .normal (ud (vN vs ad ks 0) a0) w)
  (hl:l0=(ks.map zP.isOld).toArray:=by kernel_rfl) (hn:ops.size=ks.length:=by rfl) (ha:kz md ops.toList 0=true:=by kernel_rfl) (M:kF (ks.filterMap zP.slot)=true:=by rfl) (hd:ql l0=fuel:=by rfl):
  wpAnyH P md ops (NoPanic Q) (λw'=>Below W.heap.size W w') fuel l0 a0 w0:=by
 have R:vD P md B ks W a0 ops:=⟨λi k hi=>by have:=aL ks 0 E i k hi;rwa [xG] at this,sf M⟩;have u:∀(l:Array Bool) (a:Act) (w:World),(∃vs ad,MJ ks W a0 l a w vs ad)->Region.ready md ops l=[]->l=Array.replicate ks.length true:=by
  rintro l a w ⟨vs,ad,h⟩ hr;have N:∀i,i<ks.length->l.getD i false=true:=λi=>by
   induction i using Nat.strongRecOn with
   |_ i ih=>
     intro hi;have ho:ops[i]?=some ops[i]:=QX za;cases hx:l.getD i false with
     |true=>rfl
     |false=>
       have hm:i ∈ Region.ready md ops l:=mem_ready.2 ⟨by
        have d:i<l.size:=by rw [h.len];exact hi
        rw [QZ,QX d] at hx⊢;exact hx,_,ho,λe he hb=>by
         have:=bG _ 0 ha i _ (by rw [QP];exact ho) e he hb;exact ih e.on za za⟩
       rw [hr] at hm;cases hm
  refine Array.ext (by rw [h.len,Array.size_replicate]) λi h1 h2=>?_;have:=N i (by rw [<-h.len];exact h1);rw [QZ,QX h1] at this;rw [Array.getElem_replicate];exact this
 refine Xm (J:=λA0 l a w=>∃vs ad,MJ ks W A0 l a w vs ad) (L:=Array.replicate ks.length true) hd ?_ u ?_ ?_
 ·refine⟨λ_=>undef,λ_=>0,um.refl _ _,hW,by rw [hl];simp,λi k hi h=>?_,λi t v hi=>?_,λi j t ty z st m t' ty' z' st' src' hi hj C h h'=>?_,λi t ty z st m hi h=>?_⟩
  ·rw [hl,QZ,QQ,QB,hi] at h;cases k with
   |old t v=>exact(R.run _ _ hi).1
   |val t F=>cases h
   |box t ty z st m=>cases h
   |sto b m=>trivial
  ·rw [hl,QZ,QQ,QB,hi];rfl
  ·rw [hl,QZ,QQ,QB,hi] at h;cases h
  ·rw [hl,QZ,QQ,QB,(R.run _ _ hi).2.2.2] at h;cases h
 ·rintro l a w i ⟨vs,ad,h⟩ - hi;have D:l.getD i true=false:=jo hi;have hos:=bU hi;obtain⟨k,hk⟩:∃k,ks[i]?=some k:=⟨_,qZ za⟩;have hf:l.getD i false=false:=by
   have d:i<l.size:=by rw [h.len];omega
   rw [QZ,QX d] at D⊢;exact D
  have K:∀(o:Oper),ops[i]?=some o->∀j,ww md o j=true->uR ks a w j:=λo ho j hj=>by
   have A:=iz hi ho hj;unfold uR
   split
   ·rename_i t v e;exact h.at_ _ _ e A
   ·rename_i t F e;exact⟨_,h.at_ _ _ e A⟩
   ·trivial
  cases k with
  |old t v=>have:=h.old _ _ _ hk;rw [hf] at this;cases this
  |val t F=>
    obtain⟨-,-,o,ho,hg,hr⟩:=R.run _ _ hk;exact gO ho hg λK' hK=>hr a w h.below (K o ho) K' _ λv w' hb hF=>hK.out _ _ ⟨ze h.below hb,_,_,h.val R hk hf hb hF⟩
  |box t ty z st m=>
    obtain⟨-,-,⟨o,ho,hg,hr⟩,-⟩:=R.run _ _ hk;exact gO ho hg λK' hK=>hr a w K' _ (hK.out _ _ ⟨ze h.below (bZ _ _),_,_,h.box R hk hf⟩)
  |sto b m=>
    obtain⟨o,ho,hg,H,I,tb,ty,z,ts,F,y,G,hr⟩:=R.run _ _ hk;have hB:=iz hi ho H;have hS:=iz hi ho I;have h1:=h.at_ _ _ y hB;have h2:=h.at_ _ _ G hS;have hz:=h1.2.2;rw [if_neg (by rw [hf];decide)] at hz;exact gO ho hg λK' hK=>hr a w _ _ h1.1 h2.1 h2.2 hz K' _ λw' hs hn=>hK.out _ _ ⟨hs.2.2 W h1.2.1 h.below,_,_,h.sto R hk hf y hB hS hs hn⟩
 ·rintro a w ⟨vs,ad,h⟩;have g:∀i,i<ks.length->(Array.replicate ks.length true).getD i false=true:=λi hi=>by
   rw [QZ,Array.getElem?_replicate,if_pos hi];rfl
  have d:∀(i:Nat) k,ks[i]?=some k->i<ks.length:=λi k hi=>(List.getElem?_eq_some_iff.1 hi).1;have hr:Region.ready md ops (Array.replicate ks.length true)=[]:=List.eq_nil_iff_forall_not_mem.2 λi hi=>by
   have h1:=jo hi;have h2:=bU hi;rw [QZ,Array.getElem?_replicate,if_pos za] at h1;cases h1
  refine wpAnyH_done hr (NoPanic.normal ?_) _;rw [h.kept.eq (vN vs ad ks 0) (lP vs ad ks 0) (bR ks 0 (λj t F hj=>by rw [xG];exact(h.at_ _ _ hj (g _ (d _ _ hj))).1) (λj t ty z st m hj=>by rw [xG];exact(h.at_ _ _ hj (g _ (d _ _ hj))).1))];refine x vs ad w h.below (bF ks 0 λj k hj=>?_) λi j C hi hj=>?_
  ·rw [xG];have h1:=h.at_ _ _ hj (g _ (d _ _ hj));cases k with
   |old _ _=>trivial
   |val t F=>exact h1.2
   |box t ty z st m=>
     have h2:=h1.2.2;rw [if_pos (g _ (d _ _ (R.run _ _ hj).2.2.2))] at h2;exact⟨h1.2.1,h2⟩
   |sto _ _=>trivial
  ·unfold fm at hi hj
   split at hi
   ·rename_i e
    split at hj
    ·rename_i e'
     exact h.ne _ _ _ _ _ _ _ _ _ _ _ _ e e' C (g _ (d _ _ e)) (g _ (d _ _ e'))
    ·cases hj
   ·cases hi
theorem wK {v:Value}{tl:List zP}(h:vf P md B ks W a0 ops tl (i+1))(h1:a0.tmps.getD t undef=v:=by kernel_rfl)(h2:(ks.filterMap zP.slot).all (λy=>y !=t)=true:=by rfl):vf P md B ks W a0 ops (.old t v::tl) i:=⟨⟨h1,ld h2⟩,h⟩
theorem wL {F:Value->World->Prop}{tl:List zP}{o:Oper}(h:vf P md B ks W a0 ops tl (i+1))(hr:oo P md ks W o t F) [hf:Kf B F] (ho:ops[i]?=some o:=by simp only [QQ,qR,qW];rfl)(hg:o.guard=none:=by rfl)(ht:Nat.blt t a0.tmps.size=true:=by rfl):vf P md B ks W a0 ops (.val t F::tl) i:=⟨⟨hf,(by rw [Nat.blt_eq] at ht;exact ht),o,ho,hg,hr⟩,h⟩
theorem sz {ty:TypeId}{st:Nat}{tl:List zP}{o:Oper}(h:vf P md B ks W a0 ops tl (i+1))(ho:ops[i]?=some o:=by simp only [QQ,qR,qW];rfl)(hr:ol P o t ty z:=by intro A w K Q h;go_simp;exact h)(hz:B ty z:=by first|exact jU|exact jV|exact yd.s3 _ _ _ _ _ _ _|exact⟨rfl,zh,zh⟩)(hg:o.guard=none:=by rfl)(ht:Nat.blt t a0.tmps.size=true:=by rfl)(hs:ks[st]?=some (.sto i a):=by rfl):vf P md B ks W a0 ops (.box t ty z st a::tl) i:=⟨⟨hz,(by rw [Nat.blt_eq] at ht;exact ht),⟨o,ho,hg,hr⟩,hs⟩,h⟩
theorem sE {b tb ts:Nat}{ty:TypeId}{F:Value->World->Prop}{tl:List zP}{o:Oper}(h:vf P md B ks W a0 ops tl (i+1))(hb:ks[b]?=some (.box tb ty z i a):=by rfl)(hk:ks[a]?=some (.val ts F):=by rfl)(ho:ops[i]?=some o:=by simp only [QQ,qR,qW];rfl)(hr:om P o tb ty z ts F:=by first|(intro A w g v e1 e2 hF hk K Q k;obtain⟨B,m,d,rfl,h⟩:=hF;have c0:=hk.cell 0;have f0:=hk.frozen 0;go_simp;exact k _ (fw _ _ _) (lH hk _))|(intro A w g v e1 e2 hF hk K Q k;obtain⟨b,B,m,d,rfl,h⟩:=hF;obtain⟨c0,f0,c1,f1⟩:=oz hk (.bool b);go_simp;exact k _ (jY _ _ _ _) (ow hk _ _))|(intro A w g v e1 e2 hF hk K Q k;obtain⟨B,d,rfl,h⟩:=hF;obtain⟨c0,f0,c1,f1⟩:=oz hk (.slice B _ d);go_simp;exact k _ (jY _ _ _ _) (ow hk _ _))|(intro A w g v e1 e2 hF hk K Q k;obtain⟨b,B,m,d,E,n,f,rfl,h⟩:=hF;obtain⟨c0,f0,c1,f1,c2,f2⟩:=yj hk (.bool b) (.slice B m d);go_simp;exact k _ (Zw _ _ _ _ _) (yi hk _ _ _)))(hg:o.guard=none:=by rfl)(h1:ww md o b=true:=by rfl)(h2:ww md o a=true:=by rfl):vf P md B ks W a0 ops (.sto b a::tl) i:=⟨⟨o,ho,hg,h1,h2,tb,ty,z,ts,F,hb,hk,hr⟩,h⟩
theorem mu:vf P md B ks W a0 ops [] i:=trivial
theorem uJ {a:Act}{F:Value->World->Prop}(h:uR ks a w j)(hk:ks[j]?=some (.val t F)):∃v,a.tmps.getD t undef=v/\F v w:=by
 unfold uR at h;rw [hk] at h;exact h
theorem lE (j:Nat){x t i:Nat}{F:Value->World->Prop}{tl:List zP}{o:Oper}(h:vf P md B ks W a0 ops tl (i+1)) [hf:Kf B F] (ho:ops[i]?=some o:=by simp only [QQ,qR,qW];rfl)(hk:ks[j]?=some (.val x F):=by rfl)(a:o.op=.move (.tmp x)\/o.op=.assign (.tmp x):=by first|exact .inl rfl|exact .inr rfl)(hd:o.dst=some t:=by rfl)(hj:ww md o j=true:=by rfl)(hg:o.guard=none:=by rfl)(ht:Nat.blt t a0.tmps.size=true:=by rfl):vf P md B ks W a0 ops (.val t F::tl) i:=
 wL h (λA w hB h K Q k=>by
  obtain⟨v,e,hF⟩:=uJ (h j hj) hk;refine Us a e ?_;rw [hd];exact k v w (qY _ _) hF) ho hg ht
theorem rE (j:Nat){x t n i:Nat}{F G:Value->World->Prop}{tl:List zP}{o:Oper}(hx:∀v w,G v w->∃vs u,v=.tuple vs/\vs[n]?=some u/\F u w)(h:vf P md B ks W a0 ops tl (i+1)) [hf:Kf B F] (ho:ops[i]?=some o:=by simp only [QQ,qR,qW];rfl)(hk:ks[j]?=some (.val x G):=by rfl)(a:o.op=.extract (.tmp x) n:=by rfl)(hd:o.dst=some t:=by rfl)(hj:ww md o j=true:=by rfl)(hg:o.guard=none:=by rfl)(ht:Nat.blt t a0.tmps.size=true:=by rfl):vf P md B ks W a0 ops (.val t F::tl) i:=
 wL h (λA w hB h K Q k=>by
  obtain⟨v,e,hF⟩:=uJ (h j hj) hk;obtain⟨vs,u,e1,e2,e3⟩:=hx v w hF;subst e1;refine YW a e e2 ?_;rw [hd];exact k u w (qY _ _) e3) ho hg ht
end
