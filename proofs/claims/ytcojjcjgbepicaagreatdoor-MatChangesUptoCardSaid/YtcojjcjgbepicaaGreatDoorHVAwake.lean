/- What this claim leans on. -/
import Derived.Test.YtcojjcjgbepicaaGreatDoorHMGrid
namespace Go.Proofs.YtcojjcjgbepicaaGreatDoor
open Go Go.RowKit Go.Proofs.Tryz
set_option maxHeartbeats 16000000
set_option maxRecDepth 100000
set_option linter.unusedVariables false
set_option linter.unusedSimpArgs false
theorem zgE {zs:List Int}(h:∀z ∈ zs,-9223372036854775808<=z/\z<=9223372036854775807):zaI 1 (ofL zs):=λx hx=>by
 obtain⟨z,hz,rfl⟩:=List.mem_map.1 hx;exact SzQ.whole (zeQ (h z hz).1 (h z hz).2) de9
theorem zdF (zs:List Int)(n:Nat)(hn:zs.length=n){w:World}{g:Nat}{t:TypeId}(h:Blk w g t (zs.map (Value.int .i64)).toArray)(hz:∀z ∈ zs,-9223372036854775808<=z/\z<=9223372036854775807):zdj w (some ⟨g,0,none⟩) n zs:=by
 subst hn;exact⟨rfl,λi hi=>by
  rw [List.getD_eq_getElem?_getD,List.getElem?_eq_getElem hi];exact hz _ (List.getElem_mem hi),λi hi=>⟨_,rfl,by
  rw [zaF,h.cell,List.getD_eq_getElem?_getD,List.getElem?_eq_getElem hi];simp [hi]⟩⟩
theorem qc10:RatC zam (λ_=>False):=ratC (λ_ h=>h) (λh=>h.elim) (λh=>h.elim) (λh=>h.elim)
theorem zbj.below {W W':World}{A:oA9}{n c:Nat}{R:ziB}(h:zbj W A n c R)(hb:Below W.heap.size W W'):zbj W' A n c R:=⟨h.fits,h.small,λr hr=>by
 obtain⟨ad,e,h1,h2,h3⟩:=h.row r hr;exact⟨ad,e,Nat.lt_of_lt_of_le h1 hb.size,zae hb h2,h3.below hb⟩⟩
theorem zbD.moved {α:Type}{E:El α}{w w':World}{base:Nat}{t:TypeId}{v:Value}{xs:List α}{vs:List Value}(h:zbD E w base t v xs vs)(hg:∀b,v.ownBlock=some b->w'.heap[b]?=w.heap[b]?)(hE:∀{x:α} {b:Bool} {A:oA9} {n c:Nat} {F:oA9} {k f:Nat},E w x b A n c F k f->E w' x b A n c F k f):zbD E w' base t v xs vs:=by
 refine⟨⟨h.own.1,?_⟩,h.nou.block hg,λi x hi=>?_⟩
 ·rcases h.own.2 with h1|⟨g,cap,cur,e1,e2,e3,e4⟩
  ·exact .inl h1
  ·exact .inr ⟨g,cap,cur,e1,e2,(hg g (by rw [e1];rfl)).trans e3,e4⟩
 ·obtain⟨b,B,m,d,F,u,f,h1,h2,h3,h4⟩:=h.num i x hi;exact⟨b,B,m,d,F,u,f,h1,h2,h3,hE h4⟩
theorem zbp.grownS {α:Type}{E:El α}(hE:zbp E){w w':World}{v:Value}(hs:zbL w v)(hg:w.grownBy w' v.ownBlock){r:α}{b:Bool}{A:oA9}{n c:Nat}{F:oA9}{k f:Nat}(h:E w r b A n c F k f):E w' r b A n c F k f:=by
 cases hv:v.ownBlock with
 |none=>rw [hv] at hg;exact hE.below h (zbx hg)
 |some g=>
   rw [hv] at hg;obtain⟨t,cs,hk,hc⟩:=hs.blk hv;exact hE.offg h hk (zpb hc) (zbn.of_grown hg)
structure zaZ (E:El Rat)(w:World)(lo:Nat)(v:Value)(M:List (List Rat))(vs:List Value):Prop where
 own:w.ownsRow lo 80 1 v M.length vs
 sl:zbL w v
 num:∀(i:Nat) (L:List Rat),M[i]?=some L->∃(u:Value) (us:List Value),vs[i]?=some u/\zbD E w lo 60 u L us
 apart:∀(i j:Nat) (u u':Value) (b:Nat),vs[i]?=some u->vs[j]?=some u'->u.ownBlock=some b->u'.ownBlock=some b->i=j
 far:∀(i:Nat) (u:Value) (b:Nat),vs[i]?=some u->u.ownBlock=some b->v.ownBlock≠some b
theorem zaZ.nil (E:El Rat)(w:World)(lo:Nat):zaZ E w lo (.slice none 0 0) [] []:=⟨World.ownsRow_nil _ _ _ _,zbL.nil _ _,λi L hi=>by simp at hi,λi j u u' b hi=>by simp at hi,λi u b hi=>by simp at hi⟩
theorem zaZ.len {E:El Rat}{w:World}{lo:Nat}{v:Value}{M:List (List Rat)}{vs:List Value}(h:zaZ E w lo v M vs):vs.length=M.length:=by have:=h.own.1;omega
theorem zaZ.below {E:El Rat}(hE:zbp E){w w':World}{lo:Nat}{v:Value}{M:List (List Rat)}{vs:List Value}(h:zaZ E w lo v M vs)(hb:Below w.heap.size w w'):zaZ E w' lo v M vs where
 own:=⟨h.own.1,by
  rcases h.own.2 with h1|⟨g,cap,cur,e1,e2,e3,e4⟩
  ·exact .inl h1
  ·exact .inr ⟨g,cap,cur,e1,e2,(hb.block g (Blk.lt (t:=80) (cs:=cur) e3)).trans e3,e4⟩⟩
 sl:=h.sl.below hb
 num:=λi L hi=>by
  obtain⟨u,us,h1,h2⟩:=h.num i L hi;exact⟨u,us,h1,h2.below hE hb⟩
 apart:=h.apart
 far:=h.far
theorem zaZ.slot {E:El Rat}{w:World}{lo:Nat}{v:Value}{M:List (List Rat)}{vs:List Value}{g:Nat}(h:zaZ E w lo v M vs)(hg:g<lo)(u:Value)(a:∀{x:Rat} {b:Bool} {A:oA9} {n c:Nat} {F:oA9} {k f:Nat},E w x b A n c F k f->E (w.setCell ⟨g,0,none⟩ u) x b A n c F k f):zaZ E (w.setCell ⟨g,0,none⟩ u) lo v M vs where
 own:=⟨h.own.1,by
  rcases h.own.2 with h1|⟨g',cap,cur,e1,e2,e3,e4⟩
  ·exact .inl h1
  ·exact .inr ⟨g',cap,cur,e1,e2,(Below.heap_setCell w ⟨g,0,none⟩ u g' (by show g'≠g;omega)).trans e3,e4⟩⟩
 sl:=h.sl.block (λg' e=>Below.heap_setCell _ _ _ _ (by have:=(h.own.lt g' e).1;show g'≠g;omega))
 num:=λi L hi=>by
  obtain⟨u1,us,h1,h2⟩:=h.num i L hi;exact⟨u1,us,h1,h2.moved (λb e=>Below.heap_setCell _ _ _ _ (by have:=(h2.own.lt b e).1;show b≠g;omega)) (λh5=>a h5)⟩
 apart:=h.apart
 far:=h.far
theorem zaZ.grow {E:El Rat}(hE:zbp E){w w':World}{lo n:Nat}{v v':Value}{M:List (List Rat)}{vs:List Value}{L:List Rat}{u:Value}{us:List Value}(h:zaZ E w lo v M vs)(hx:zbD E w lo 60 u L us)
  (g:∀(i:Nat) (u':Value) (b:Nat),vs[i]?=some u'->u'.ownBlock=some b->u.ownBlock≠some b) (hf:∀b,u.ownBlock=some b->v.ownBlock≠some b)
  (ho:w'.ownsRow lo 80 1 v' n (vs++[u])) (hn:n=M.length+1) (hg:w.grownBy w' v.ownBlock) (f:v'.ownBlock=v.ownBlock\/v'.ownBlock=some w.heap.size) (hs:zbL w' v'):zaZ E w' lo v' (M++[L]) (vs++[u]):=by
 have hl:=h.len;have k:∀{z:Value} {K:List Rat} {zs:List Value},zbD E w lo 60 z K zs->(∀b,z.ownBlock=some b->v.ownBlock≠some b)->zbD E w' lo 60 z K zs:=λhz l=>
  hz.moved (λb e=>hg.block b (hz.own.lt b e).2 (λe2=>l b e e2.symm)) (λh5=>hE.grownS h.sl hg h5)
 have c:∀(i:Nat) (z:Value),(vs++[u])[i]?=some z->(i<vs.length/\vs[i]?=some z)\/(i=vs.length/\z=u):=λi z hi=>by
  by_cases d:i<vs.length
  ·rw [List.getElem?_append_left d] at hi;exact .inl ⟨d,hi⟩
  ·rw [List.getElem?_append_right om9] at hi;have a:i=vs.length:=by
    have:=(List.getElem?_eq_some_iff.1 hi).1;simp at this;omega
   subst a;rw [Nat.sub_self] at hi;injection hi with hi;exact .inr ⟨rfl,hi.symm⟩
 refine⟨by rw [List.length_append,List.length_singleton,<-hn];exact ho,hs,λi K hi=>?_,λi j z z' b hi hj e e'=>?_,λi z b hi e=>?_⟩
 ·by_cases d:i<M.length
  ·rw [List.getElem?_append_left d] at hi;obtain⟨z,zs,h1,h2⟩:=h.num i K hi;exact⟨z,zs,by rw [List.getElem?_append_left om9];exact h1,k h2 (λb e=>h.far i z b h1 e)⟩
  ·rw [List.getElem?_append_right om9] at hi;have a:i=M.length:=by
    have:=(List.getElem?_eq_some_iff.1 hi).1;simp at this;omega
   subst a;obtain rfl:L=K:=by
    rw [Nat.sub_self] at hi;injection hi
   exact⟨u,us,by rw [List.getElem?_append_right om9,hl,Nat.sub_self];rfl,k hx hf⟩
 ·rcases c i z hi with⟨hi1,a⟩|⟨rfl,rfl⟩
  ·rcases c j z' hj with⟨hj1,hj2⟩|⟨rfl,rfl⟩
   ·exact h.apart i j z z' b a hj2 e e'
   ·exact absurd e' (g i z b a e)
  ·rcases c j z' hj with⟨hj1,hj2⟩|⟨rfl,rfl⟩
   ·exact absurd e (g j z' b hj2 e')
   ·rfl
 ·have d:b<w.heap.size/\v.ownBlock≠some b:=by
   rcases c i z hi with⟨hi1,a⟩|⟨rfl,rfl⟩
   ·obtain⟨z1,zs,h1,h2⟩:=h.num i _ (List.getElem?_eq_getElem om9);rw [a] at h1;injection h1 with h1;subst h1;exact⟨(h2.own.lt b e).2,h.far i z b a e⟩
   ·exact⟨(hx.own.lt b e).2,hf b e⟩
  rcases f with f|f
  ·rw [f];exact d.2
  ·rw [f];intro e2;injection e2 with e2;omega
theorem zaZ.refm {E:El Rat}{w:World}{lo n m:Nat}{v:Value}{M:List (List Rat)}{vs:List Value}(h:zaZ E w lo v M vs)(hd:zbG M n m)(hn:n<=64)(hm:m<=64)(hR:∀{x:Rat} {b:Bool} {A:oA9} {n c:Nat} {F:oA9} {k f:Nat},E w x b A n c F k f->zbZ w x b A n c F k f:=by exact λh=>h):∃A c,v=.slice A n c/\zbP w A n c m M:=
 zaN.refm ⟨h.own,h.sl,λi L hi=>by
  obtain⟨u,us,h1,h2⟩:=h.num i L hi;obtain⟨B,d,rfl,h3,-⟩:=h2.shape;exact⟨B,d,h1,zhM h3 hR⟩⟩ hd hn hm
section
variable {α:Type}{E:El α}
theorem zaE.cells {w:World}{ad:Addr}{n c:Nat}{xs:List α}(h:zaE E w (some ad) n c xs):∃a:List Value,a.length=n*3/\(∀j u,a[j]?=some u->w.cell? (ad.add j)=some u)/\(∀u ∈ a,u.oneCell'=true)/\(∀u ∈ a,zgi u)/\
  ∀i x,xs[i]?=some x->∃(b:Bool) (B:oA9) (m d:Nat) (F:oA9) (u f:Nat),a[i*3]?=some (.bool b)/\a[i*3+1]?=some (.slice B m d)/\a[i*3+2]?=some (.slice F u f)/\E w x b B m d F u f:=by
 have hl:=h.len;have hc:∀j,j<n*3->∃u,w.cell? (ad.add j)=some u/\u.oneCell'=true/\zgi u:=λj hj=>by
  have hi:j / 3<n:=om9;obtain⟨l,b,B,m,d,F,u,v,e,h1,h2,h3,h4,h5⟩:=h.num (j / 3) _ (List.getElem?_eq_getElem om9);injection e with e;subst e;have o:j%3=0\/j%3=1\/j%3=2:=om9;rcases o with h9|h9|h9
  ·exact⟨.bool b,by rw [show j=j / 3*3 by omega];exact h2,rfl,λk z e=>by cases e⟩
  ·exact⟨.slice B m d,by rw [show j=j / 3*3+1 by omega];exact h3,rfl,λk z e=>by cases e⟩
  ·exact⟨.slice F u v,by rw [show j=j / 3*3+2 by omega];exact h4,rfl,λk z e=>by cases e⟩
 have hg:∀j u,j<n*3->w.cell? (ad.add j)=some u->((List.range (n*3)).map λj=>(w.cell? (ad.add j)).getD (.bool false))[j]?=some u:=λj u hj hu=>by
  rw [List.getElem?_map,List.getElem?_range hj];show some ((w.cell? (ad.add j)).getD (.bool false))=some u;rw [hu];rfl
 refine⟨(List.range (n*3)).map λj=>(w.cell? (ad.add j)).getD (.bool false),si9,λj u hj=>?_,λu hu=>?_,λu hu=>?_,λi x hi=>?_⟩
 ·have g:j<n*3:=by
   have:=(List.getElem?_eq_some_iff.1 hj).1;simpa using this
  obtain⟨u',h1,-,-⟩:=hc j g;rw [hg j u' g h1] at hj;injection hj with hj;rw [<-hj];exact h1
 ·obtain⟨j,hj,rfl⟩:=List.mem_map.1 hu;obtain⟨u',h1,h2,-⟩:=hc j (List.mem_range.1 hj);rw [h1];exact h2
 ·obtain⟨j,hj,rfl⟩:=List.mem_map.1 hu;obtain⟨u',h1,-,h2⟩:=hc j (List.mem_range.1 hj);rw [h1];exact h2
 ·have g:=(List.getElem?_eq_some_iff.1 hi).1;obtain⟨l,b,B,m,d,F,u,v,e,h1,h2,h3,h4,h5⟩:=h.num i x hi;injection e with e;subst e;exact⟨b,B,m,d,F,u,v,hg _ _ om9 h2,hg _ _ om9 h3,hg _ _ om9 h4,h5⟩
theorem zbD.copied (hE:zbp E){w w':World}{base n:Nat}{t:TypeId}{v':Value}{xs:List α}{a:List Value}(hl:xs.length=n)
  (c:∀i x,xs[i]?=some x->∃(b:Bool) (B:oA9) (m d:Nat) (F:oA9) (u f:Nat),a[i*3]?=some (.bool b)/\a[i*3+1]?=some (.slice B m d)/\a[i*3+2]?=some (.slice F u f)/\E w x b B m d F u f)
  (ho:w'.ownsRow base t 3 v' (0+n) ([]++a)) (hg:w.grownBy w' none) (hn:zbE w' v'):zbD E w' base t v' xs a:=by
 rw [Nat.zero_add,List.nil_append] at ho;refine⟨by rw [hl];exact ho,hn,λi x hi=>?_⟩;obtain⟨b,B,m,d,F,u,f,h1,h2,h3,h4⟩:=c i x hi;exact⟨b,B,m,d,F,u,f,h1,h2,h3,hE.below h4 (zbx hg)⟩
end
theorem zaZ.offz {E:El Rat}{w:World}{lo:Nat}{v:Value}{M:List (List Rat)}{vs:List Value}{g:Nat}(h:zaZ E w lo v M vs)(hg:g<lo)(x y:Value)(a:∀{z:Rat} {b:Bool} {A:oA9} {n c:Nat} {F:oA9} {k f:Nat},E w z b A n c F k f->E ((w.setCell ⟨g,0,none⟩ x).setCell ⟨g,1,none⟩ y) z b A n c F k f):zaZ E ((w.setCell ⟨g,0,none⟩ x).setCell ⟨g,1,none⟩ y) lo v M vs where
 own:=⟨h.own.1,by
  rcases h.own.2 with h1|⟨g',cap,cur,e1,e2,e3,e4⟩
  ·exact .inl h1
  ·exact .inr ⟨g',cap,cur,e1,e2,(Below.heap_setCell _ ⟨g,1,none⟩ y g' (by show g'≠g;omega)).trans ((Below.heap_setCell w ⟨g,0,none⟩ x g' (by show g'≠g;omega)).trans e3),e4⟩⟩
 sl:=h.sl.block (λg' e=>(Below.heap_setCell _ _ _ _ (by have:=(h.own.lt g' e).1;show g'≠g;omega)).trans (Below.heap_setCell _ _ _ _ (by have:=(h.own.lt g' e).1;show g'≠g;omega)))
 num:=λi L hi=>by
  obtain⟨u1,us,h1,h2⟩:=h.num i L hi;exact⟨u1,us,h1,h2.moved (λb e=>(Below.heap_setCell _ _ _ _ (by have:=(h2.own.lt b e).1;show b≠g;omega)).trans (Below.heap_setCell _ _ _ _ (by have:=(h2.own.lt b e).1;show b≠g;omega))) (λh5=>a h5)⟩
 apart:=h.apart
 far:=h.far
theorem zgN {P:Program}{α:Type}{E:El α}(hE:zbp E)(w:World){r:Array Oper}{rest:List Oper}{o:Oper}{a:Act}{Q:Exit->Act->World->Prop}(p:o.guard=none)(s x:Operand)(t:TypeId)
  (ho:o.op=.call {callee:=.builtin .append,args:=#[s,x],argTypes:=#[t,t]})
  (base:Nat) (e:TypeId) (i:TypeInfo) (z:Value) (bytes:Nat) (ht:P.underlying t=some (.slice e)) (hi:P.info? e=some i) (hz:i.zero=some z)
  (l:i.size=3) (y:i.bytes=bytes) (G:z.cells.size=3)
  (hs:a.eval s=.slice none 0 0) {A:oA9} {n c:Nat} {xs:List α} (hx:a.eval x=.slice A n c) (f:zaE E w A n c xs)
  (h63:n<=maxLen) (g:n*bytes<=140737488355328) (j:base<=w.heap.size) (D:∀u ∈ z.cells.toList,zgi u)
  (k:∀v' w' us,zbD E w' base e v' xs us->w.grownBy w' none->(v'.ownBlock=none\/v'.ownBlock=some w.heap.size)->wpList P r Q rest (a.put o.dst v') w'):wpList P r Q (o::rest) a w:=by
 have hl:=f.len;cases A with
 |none=>
   have hn:n=0:=by
    cases n with
    |zero=>rfl
    |succ q=>
      obtain⟨ad,b,B,m,d,F,u,v,e9,_⟩:=f.num 0 _ (List.getElem?_eq_getElem om9);cases e9
   subst hn;have C:xs=[]:=List.eq_nil_of_length_eq_zero hl;subst C;have hr:=zes (P:=P) w base t o.type e i 3 ht hi (.slice none 0 0) 0 [] (World.ownsRow_nil _ _ _ _) c;refine wpList_plain p λK hK=>?_;unfold Oper.wp execOp;simp only [ho,resolve,invoke,builtin,Sem.run_bind,Sem.run_pure,Result.andThen_ok,List.map_toArray,List.map_cons,List.map_nil,hs,hx,hr];exact hK _ _ (k _ _ [] (zbD.nil _ _ _) (World.grownBy.refl w _) (.inl rfl))
 |some ad=>
   obtain⟨h,n1,n2,n3,n4,n5⟩:=f.cells;refine zdp w p s x t ho base e i z 3 bytes ht hi hz l y G de9 (.slice none 0 0) 0 [] hs (World.ownsRow_nil _ _ _ _) ad n c h hx n1 n2 n3 om9 (by rw [Nat.zero_add];exact g) j (zbE.nil _ _) D n4 ?_;intro v' w' h2 h3 h4 h5;exact k v' w' h (zbD.copied hE hl n5 h2 h3 h5) h3 h4
def zeB (ok:Bool)(w:World)(A:oA9)(n c:Nat)(z:Int)(N m:Nat)(M:List (List Rat)):Prop:=ok=true->N=n/\(m:Int)=z/\zaH w A N c m M
theorem zeB.keep {ok:Bool}{w w':World}{A:oA9}{n c:Nat}{z:Int}{N m:Nat}{M:List (List Rat)}(h:zeB ok w A n c z N m M)(hb:Below w.heap.size w w'):zeB ok w' A n c z N m M:=λe=>⟨(h e).1,(h e).2.1,(h e).2.2.keep hb⟩
def CondV (ok:Bool)(w:World)(A:oA9)(n c N:Nat)(xs:List Rat):Prop:=ok=true->N=n/\zaL w A N c xs
theorem CondV.keep {ok:Bool}{w w':World}{A:oA9}{n c N:Nat}{xs:List Rat}(h:CondV ok w A n c N xs)(hb:Below w.heap.size w w'):CondV ok w' A n c N xs:=λe=>⟨(h e).1,(h e).2.keep hb⟩
theorem zpn {a b:Nat}{ok:Bool}(h:decide (a=b)=ok):((a:Int)==(b:Int))=ok:=by
 subst h;by_cases q:a=b
 ·rw [decide_eq_true q,beq_iff_eq];omega
 ·rw [decide_eq_false q,beq_eq_false_iff_ne];omega
theorem bne_b (b:Bool):(b !=b)=false:=by cases b<;>rfl
theorem zlz (b:Bool):(!(b==b))=false:=by cases b<;>rfl
set_option linter.unusedSectionVars false
def CondR (ok:Bool)(w:World)(A:oA9)(n c:Nat)(z:Int)(N m:Nat)(M:List (List Rat)):Prop:=ok=true->N=n/\(m:Int)=z/\zbP w A N c m M
theorem CondR.keep {ok:Bool}{w w':World}{A:oA9}{n c:Nat}{z:Int}{N m:Nat}{M:List (List Rat)}(h:CondR ok w A n c z N m M)(hb:Below w.heap.size w w'):CondR ok w' A n c z N m M:=λe=>⟨(h e).1,(h e).2.1,(h e).2.2.keep hb⟩
def CondO (ok:Bool)(w0 w:World)(A:oA9)(n c N:Nat)(xs:List Rat):Prop:=(ok=true->∃g,A=some ⟨g,0,none⟩/\N=n/\N=c/\w0.heap.size<=g/\zda w g N xs)/\(ok=false->n=0)
theorem CondO.keep {ok:Bool}{w0 w w':World}{A:oA9}{n c N:Nat}{xs:List Rat}(h:CondO ok w0 w A n c N xs)(hb:Below w.heap.size w w'):CondO ok w0 w' A n c N xs:=⟨λe=>by
 obtain⟨g,h1,h2,h3,h4,h5⟩:=h.1 e;exact⟨g,h1,h2,h3,h4,h5.keep hb⟩,h.2⟩
def zdr (ok:Bool)(w:World)(N m:Nat)(M:List (List Rat))(e:Ending)(w':World):Prop:=∃(A:oA9) (n c:Nat) (z:Int),e=.returned (.tuple #[.agg #[.slice A n c,.int .i64 z],.bool ok])/\zeB ok w' A n c z N m M/\(ok=false->A=none/\n=0/\c=0/\z=0)/\Below w.heap.size w w'
theorem zha {w:World}{N m:Nat}{M:List (List Rat)}{e:Ending}{w':World}(h:zbM w N m M e w'):zdr true w N m M e w':=by
 obtain⟨A,c,h1,h2,h3,h4⟩:=h;exact⟨A,N,c,m,h1,λ_=>⟨rfl,rfl,h2⟩,λe=>(by cases e),h4⟩
theorem ziR {w:World}{N m:Nat}{M:List (List Rat)}{e:Ending}{w':World}(h:zce w e w'):zdr false w N m M e w':=by
 obtain⟨h1,h2⟩:=h;exact⟨_,_,_,_,h1,λe=>(by cases e),λ_=>⟨rfl,rfl,rfl,rfl⟩,h2⟩
section
variable {A:oA9}{n c m K:Nat}{M:List (List Rat)}{r:Int}{ok:Bool}{w:World}
theorem zdZ (h:inB r n=true):r=(r.toNat:Int)/\r.toNat<n:=by
 obtain⟨k,rfl,hk⟩:=zhb h;exact⟨si9,by simpa using hk⟩
end
theorem zlj {r:Int}{n:Nat}{b:Bool}(h:inB r n=b):(decide (0<=r)=true/\decide (r>=0)=true/\decide (r<(n:Int))=b)\/(decide (0<=r)=false/\decide (r>=0)=false/\false=b):=by
 unfold inB at h;by_cases h0:0<=r
 ·rw [decide_eq_true h0,Bool.true_and] at h;exact .inl ⟨decide_eq_true h0,decide_eq_true h0,h⟩
 ·rw [decide_eq_false h0,Bool.false_and] at h;exact .inr ⟨decide_eq_false h0,decide_eq_false h0,h⟩
def zdI (M:List (List Rat))(k:Int):Nat->List (List Rat)
 |0=>[]
 |i+1=>if (i:Int)=k then zdI M k i else zdI M k i++[M.getD i []]
theorem zlC (M:List (List Rat))(k:Int):∀i,(zdI M k i).length<=i
 |0=>Nat.le_refl _
 |i+1=>by
   have h:=zlC M k i;unfold zdI
   split
   ·omega
   ·rw [List.length_append,List.length_singleton];omega
theorem zhH {M:List (List Rat)}{n m:Nat}(h:zbG M n m)(k:Int):∀i,i<=n->∀L ∈ zdI M k i,L.length=m
 |0,_,L,hL=>by cases hL
 |i+1,hi,L,hL=>by
   unfold zdI at hL
   split at hL
   ·exact zhH h k i om9 L hL
   ·rcases List.mem_append.1 hL with hL|hL
    ·exact zhH h k i om9 L hL
    ·rw [List.mem_singleton] at hL;subst hL;exact h.row hi
theorem zkx (M:List (List Rat))(k:Int):∀i,i<=M.length->(∀j,j<i->(j:Int)≠k)->zdI M k i=M.take i
 |0,_,_=>by simp [zdI]
 |i+1,hi,hk=>by
   unfold zdI;rw [if_neg (hk i (Nat.lt_succ_self i)),zkx M k i om9 (λj hj=>hk j om9),List.take_succ_eq_append_getElem hi,List.getD_eq_getElem?_getD,List.getElem?_eq_getElem hi];rfl
theorem zkw {M:List (List Rat)}{r:Nat}(hr:r<M.length):∀i,r<i->i<=M.length->zdI M (r:Int) i=znc (M.take i) r
 |0,h,_=>absurd h om9
 |i+1,h,hi=>by
   unfold zdI;by_cases e:(i:Int)=(r:Int)
   ·have e2:i=r:=om9;subst e2;rw [if_pos e,zkx M _ i om9 (λj hj=>by omega),List.take_succ_eq_append_getElem hi,zoz (by rw [List.length_take];omega)]
   ·rw [if_neg e,zkw hr i om9 om9,List.take_succ_eq_append_getElem hi,List.getD_eq_getElem?_getD,List.getElem?_eq_getElem hi];unfold znc;rw [List.eraseIdx_append_of_lt_length (by rw [List.length_take];omega)];rfl
theorem zhi {M:List (List Rat)}{n r:Nat}(h:M.length=n)(hr:r<n):zdI M (r:Int) n=znc M r:=by
 subst h;rw [zkw hr _ hr (Nat.le_refl _),List.take_length]
theorem zgn {A:oA9}{n c m:Nat}{M:List (List Rat)}{z:Int}{w:World}(h:zbP w A n c m M):
  Calls prog 69 #[.slice A n c,.int .i64 z] w (λe w'=>∃(A':oA9) (c':Nat),e=.returned (.slice A' (zdI M z n).length c')/\zbP w' A' (zdI M z n).length c' m (zdI M z n)/\Below w.heap.size w w'):=by
 obtain⟨i9,T,Y,G,H⟩:=info_parts zeK;have X:n<=64:=h.hn;have V:m<=64:=h.hm;have HM:=lh9 h;have HD:=lh9 h.dims;clear h;have hB:=Below.refl w.heap.size w;go_enter func69,ntmps69;go_wp2_with fail
 go_loopg [5,6] (n+1) (λg sl ix wr=>∃(k:Nat) (v:Value) (vs:List Value),k<=n/\n<g+k/\ix=.int .i64 k/\v=sl/\zaN (zaE zbZ) wr w.heap.size 80 v (zdI M z k) vs/\Below w.heap.size w wr)
 case atStart=>exact⟨0,_,_,Nat.zero_le _,om9,rfl,rfl,zaN.nil _ _ _,hB⟩
 case round=>
  clear hB;obtain⟨k,v,vs,hkn,hg,rfl,rfl,d,hB⟩:=hrel;by_cases hlt:k<n
  ·have R:decide ((k:Int)<(n:Int))=true:=decide_eq_true om9;have E:decide (k<n)=true:=decide_eq_true hlt;have i1:(0:Int)<=(k:Int):=om9;have i2:(k:Int)<(n:Int):=om9;obtain⟨ad,Bk,dk,rfl,-,hck,l⟩:=HM.out.row hB hlt;by_cases hk:(k:Int)=z
   ·have S:((k:Int) !=z)=false:=by rw [hk];simp
    have HE:Hid (zdI M z (k+1)=zdI M z k):=by show _=_;rw [zdI,if_pos hk]
    have b:=lh9 d;have HB:=lh9 hB;clear d hB hk l;go_wp2;go_roundg (n - k)
    case measure=>omega
    case rel=>exact⟨k+1,_,_,om9,om9,by go_num,rfl,HE.out▸b.out,HB.out⟩
   ·have S:((k:Int) !=z)=true:=by simp [hk]
    have HE:Hid (zdI M z (k+1)=zdI M z k++[M.getD k []]):=by show _=_;rw [zdI,if_neg hk]
    have x:=lh9 (HD.out.row hlt);have U:=zlC M z k;obtain⟨q,hq⟩:∃q,(zdI M z k).length=q:=⟨_,rfl⟩;rw [hq] at U;obtain⟨Lk,D⟩:∃L,M.getD k []=L:=⟨_,rfl⟩;rw [D] at l HE x;obtain⟨t1,t2,-⟩:=zaD wr 80 #[.slice Bk m dk];have b:=lh9 (d.below (zaq zao) t1);have HR:=lh9 (zaE.below zao l t1);have HB:=lh9 (zac hB t1);have i:=b.out.own;rw [hq] at i;have C:=lh9 i;have N:=lh9 hq;have O:=lh9 b.out.sl;have s:=lh9 (zaQ wr (.slice Bk m dk) 80);have t:=lh9 HB.out.size;have K:=lh9 (λr (h:v.ownBlock=some r)=>b.out.own.lt r h);have P:Hid (∀u ∈(Value.slice none 0 0).cells.toList,zbf u):=by intro u hu;simp [Value.cells] at hu;exact⟨_,_,_,hu⟩
    have J:Hid (∀u ∈ [Value.slice Bk m dk],zbf u):=by intro u hu;simp at hu;exact⟨_,_,_,hu⟩
    have B:Hid (∀u ∈ [Value.slice Bk m dk],u.oneCell'=true):=by intro u hu;simp at hu;subst hu;rfl
    clear d l hB t1 t2 i hk D hq;go_upto_region 6 with fail;go_wp2_with (at_builtin;go_loud (refine zbv _ rfl (.tmp 16) (.tmp 21) 34 rfl w.heap.size 80 i9 (.slice none 0 0) 1 24 underlying34 T Y G H rfl de9 v q vs rfl C.out ⟨wr.heap.size,0,none⟩ 1 1 [.slice Bk m dk] rfl rfl s.out B.out (by unfold maxLen;omega) om9 t.out O.out P.out J.out ?_;intro v' w8 j a Q o;have f:=zaN.grow (n:=q+1) (L:=Lk) (zaq zao) b.out HR.out x.out j (by rw [N.out]) a o;rw [<-HE.out] at f;have y:=lh9 f;have p:=lh9 (HB.out.grown a t.out (λr hr=>(K.out r hr).1));clear f j a Q o));go_roundg (n - k)
    case measure=>omega
    case rel=>exact⟨k+1,_,_,om9,om9,by go_num,rfl,y.out,p.out⟩
  ·have hk:k=n:=om9;subst hk;have R:decide ((k:Int)<(k:Int))=false:=si9;have E:decide (k<k)=false:=si9;obtain⟨A7,c7,rfl,F⟩:=d.refm (n:=(zdI M z k).length) ⟨rfl,zhH HD.out z k (Nat.le_refl _)⟩ (Nat.le_trans (zlC M z k) X) V;have I:=lh9 F;have p:=lh9 hB;clear d F hB;go_wp2;go_ret;exact⟨A7,c7,rfl,I.out,p.out⟩
