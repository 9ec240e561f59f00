/- What this claim leans on. -/
import Derived.Test.YtcojjcjgbepicaaGreatDoorSBunL
namespace Go.Proofs.YtcojjcjgbepicaaGreatDoor
open Go Go.RowKit
set_option maxHeartbeats 16000000
set_option linter.unusedVariables false
def Cs (w:World):List (Addr×Value)->Prop
 |[]=>True
 |q::t=>w.cell? q.1=some q.2/\Cs w t
theorem csn {w:World}:Cs w []:=trivial
theorem csc {w:World}{p:Addr}{v:Value}{l:List (Addr×Value)}(h:w.cell? p=some v)(t:Cs w l):Cs w ((p,v)::l):=⟨h,t⟩
theorem Cs.below {w w':World}{l:List (Addr×Value)}(h:Cs w l)(hb:Below w.heap.size w w'):Cs w' l:=by
 induction l with
 |nil=>trivial
 |cons q t ih=>exact⟨zac hb h.1,ih h.2⟩
theorem Cs.drew {w:World}{l:List (Addr×Value)}(h:Cs w l):Cs w.drew l:=by
 induction l with
 |nil=>trivial
 |cons q t ih=>exact⟨h.1,ih h.2⟩
def OffL (g:Nat):List (Addr×Value)->Prop
 |[]=>True
 |q::t=>q.1.block≠g/\OffL g t
theorem Cs.far {w w':World}{g:Nat}{l:List (Addr×Value)}(h:Cs w l)(hf:zba g w w')(hn:OffL g l):Cs w' l:=by
 induction l with
 |nil=>trivial
 |cons q t ih=>exact⟨(hf.2 q.1 hn.1).trans h.1,ih h.2 hn.2⟩
theorem cs2 {w:World}{g:Nat}{l:List (Addr×Value)}(x y:Value)(h:Cs w l)(hn:OffL g l:=by(simp only [OffL,and_true];try omega)):Cs ((w.setCell ⟨g,0,none⟩ x).setCell ⟨g,1,none⟩ y) l:=h.far (ziM w g x y) hn
theorem cs3 {w:World}{g:Nat}{l:List (Addr×Value)}(x y z:Value)(h:Cs w l)(hn:OffL g l:=by(simp only [OffL,and_true];try omega)):Cs (((w.setCell ⟨g,0,none⟩ x).setCell ⟨g,1,none⟩ y).setCell ⟨g,2,none⟩ z) l:=h.far (zdV w g x y z) hn
theorem sb9:(∀(a:Act) (d:Nat) (v:Value),a.put (some d) v={tmps:=a.tmps.setIfInBounds d v,defers:=a.defers})/\(∀(a:Act) (v:Value),a.put none v=a)/\(∀(l:List Value) (i:Nat) (v:Value),l.toArray.setIfInBounds i v=(l.set i v).toArray)/\(∀(x:Value) (l:List Value) (v:Value),(x::l).set 0 v=v::l)/\(∀(x:Value) (l:List Value) (i:Nat) (v:Value),(x::l).set (i+1) v=x::l.set i v):=
 ⟨λ_ _ _=>rfl,λ_ _=>rfl,λ_ _ _=>List.setIfInBounds_toArray ..,λ_ _ _=>rfl,λ_ _ _ _=>rfl⟩
section
variable {P:Program}{ops:Array Oper}{Q:Exit->Act->World->Prop}{S:World->Prop}{fuel:Nat}{l:Array Bool}{a:Act}{w:World}
theorem rg {id:Nat}{cl:List (Addr×Value)}(h0:Cs w cl)(h:Cs w.drew cl->wpAnyH P .any ops (NoPanic Q) (λw'=>Cs w' cl) ops.size (Array.replicate ops.size false) a w.drew)(hm:P.follows Departure.mixedOrders=true:=by kernel_rfl):Code.wp P (.region id ops true) Q a w:=
 wp_region_noPanic (wp_region_held_drew (S:=λw'=>Cs w' cl) hm h0.drew h)
theorem tk (i:Nat){o:Oper}{v:Value}{a':Act}(hn:wpAnyH P .any ops (NoPanic Q) S fuel (l.setIfInBounds i true) a' w)(h1:ops[i]?=some o:=by simp only [List.getElem?_toArray,List.getElem?_cons_succ,List.getElem?_cons_zero];rfl)(h2:Region.noSelect ops=true:=by kernel_rfl)(h3:Region.free .any ops l i=true:=by kernel_rfl)(h4:(Region.ready .any ops l).contains i=true:=by kernel_rfl)(h5:Region.wanted o (yielded ops a.tmps)=true:=by rfl)(h6:∀w,S w->Sem.run P (execOp a.eval o) w=Result.ok (Next.value v) w:=by((intro w hSw;(try dsimp only [Cs] at hSw);go_simp);(try with_reducible rfl)))(hS:S w:=by with_reducible assumption)(ha:a.put o.dst v=a':=by(simp only [sb9];try rfl)):wpAnyH P .any ops (NoPanic Q) S (fuel+1) l a w:=
 wpAnyH_take h1 h2 h3 h4 (λ_ _ _ h=>h) (Or.inl ⟨h5,h6⟩) hS (ha▸hn)
theorem tu (i:Nat){o:Oper}{a':Act}(hn:wpAnyH P .any ops (NoPanic Q) S fuel (l.setIfInBounds i true) a' w)(h1:ops[i]?=some o:=by simp only [List.getElem?_toArray,List.getElem?_cons_succ,List.getElem?_cons_zero];rfl)(h2:Region.noSelect ops=true:=by kernel_rfl)(h3:Region.free .any ops l i=true:=by kernel_rfl)(h4:(Region.ready .any ops l).contains i=true:=by kernel_rfl)(h5:Region.wanted o (yielded ops a.tmps)=false:=by rfl)(hS:S w:=by with_reducible assumption)(ha:a.put o.dst undef=a':=by(simp only [sb9];try rfl)):wpAnyH P .any ops (NoPanic Q) S (fuel+1) l a w:=
 wpAnyH_take h1 h2 h3 h4 (λ_ _ _ h=>h) (Or.inr ⟨h5,rfl⟩) hS (ha▸hn)
theorem rc (i:Nat){o:Oper}(hk:∀K':Act->World->Prop,Shut (∀(a:Act) (w:World),S w->(S w->wpAnyH P .any ops (NoPanic Q) S fuel (l.setIfInBounds i true) a w)->K' a w)->Oper.wp P o a w K' (NoPanic Q))(h1:ops[i]?=some o:=by simp only [List.getElem?_toArray,List.getElem?_cons_succ,List.getElem?_cons_zero];rfl)(h2:Region.ready .any ops l=[i]:=by kernel_rfl)(h3:Region.wanted o (yielded ops a.tmps)=true:=by rfl):wpAnyH P .any ops (NoPanic Q) S (fuel+1) l a w:=
 wpAnyH_ready h2 (by simp) (AllReadyH.cons h1 (λK' hK=>by rw [if_pos h3];exact hk K' hK) AllReadyH.nil)
theorem rdn (h:Q .normal a w)(hr:Region.ready .any ops l=[]:=by kernel_rfl):wpAnyH P .any ops (NoPanic Q) S fuel l a w:=wpAnyH_done hr (NoPanic.normal h) fuel
variable {ops0:Array Oper}{md:Region.Mode}{i:Nat}
theorem rdp (d k:Nat){o:Oper}{e:Edge}(hi:i ∈ Region.ready md ops l)(hO:ops=ops0)(ho:ops0[i]?=some o:=by simp only [List.getElem?_toArray,List.getElem?_cons_succ,List.getElem?_cons_zero];rfl)(he:o.after[k]?=some e:=by rfl)(hb:Region.binds md e=true:=by rfl)(hd:e.on=d:=by rfl):l.getD d false=true:=by
 subst hO;subst hd;exact zpt hi ho he hb
theorem als (i:Nat){o:Oper}(h:Region.ready md ops l=[])(hO:ops=ops0)(ho:ops0[i]?=some o:=by simp only [List.getElem?_toArray,List.getElem?_cons_succ,List.getElem?_cons_zero];rfl)(hr:(o.after.toList.all λe=> !Region.binds md e||l.getD e.on false)=true:=by rfl):l.getD i true=true:=by
 subst hO;exact zmF h ho hr
theorem gdl (i:Nat){L l:Array Bool}(h:L=l):l.getD i false=L.getD i false:=by rw [h]
theorem Gd.off {b:Bool}(h:Gd b (false=true)):b=false:=by
 cases b
 ·rfl
 ·exact absurd (h rfl) (by decide)
theorem wog {o:Oper}{K:Act->World->Prop}{Q:Exit->Act->World->Prop}(hO:ops=ops0)(h:∀K':Act->World->Prop,Shut (∀a w,K a w->K' a w)->Oper.wp P o a w K' Q)(ho:ops0[i]?=some o:=by simp only [List.getElem?_toArray,List.getElem?_cons_succ,List.getElem?_cons_zero];rfl)(hg:o.guard=none:=by rfl):wpOp P ops Q i K a w:=by
 subst hO;exact wpOp_go ho hg h
theorem kq0 {f:Bool}{a:Act}{x i:Nat}{u v:Value}(h:Gd f (a.tmps.getD x undef=u))(hn:x≠i:=by decide):Gd f ((a.put (some i) v).tmps.getD x undef=u):=h.mono λh=>(rd_ne hn _).trans h
theorem kq {f:Bool}{a:Act}{x i:Nat}{u v:Value}{p q:Prop}(h:Gd f (a.tmps.getD x undef=u/\p))(g:p->q)(hn:x≠i:=by decide):Gd f ((a.put (some i) v).tmps.getD x undef=u/\q):=h.mono λh=>⟨(rd_ne hn _).trans h.1,g h.2⟩
end
theorem Blk.c1 {w:World}{g:Nat}{t:TypeId}{x:Value}(h:Blk w g t #[x]):w.cell? ⟨g,0,none⟩=some x:=h.cell 0
theorem Blk.c2 {w:World}{g:Nat}{t:TypeId}{x y:Value}(h:Blk w g t #[x,y]):w.cell? ⟨g,0,none⟩=some x/\w.cell? ⟨g,1,none⟩=some y:=⟨h.cell 0,h.cell 1⟩
theorem Blk.c3 {w:World}{g:Nat}{t:TypeId}{x y z:Value}(h:Blk w g t #[x,y,z]):w.cell? ⟨g,0,none⟩=some x/\w.cell? ⟨g,1,none⟩=some y/\w.cell? ⟨g,2,none⟩=some z:=⟨h.cell 0,h.cell 1,h.cell 2⟩
theorem st1 {w:World}{g:Nat}{t:TypeId}{a:Value}(h:Blk w g t #[a]):w.cell? ⟨g,0,none⟩=some a/\w.frozen? ⟨g,0,none⟩=false:=⟨h.cell 0,h.frozen 0⟩
theorem st2 {w:World}{g:Nat}{t:TypeId}{a b:Value}(h:Blk w g t #[a,b])(x:Value):w.cell? ⟨g,0,none⟩=some a/\w.frozen? ⟨g,0,none⟩=false/\(w.setCell ⟨g,0,none⟩ x).cell? ⟨g,1,none⟩=some b/\(w.setCell ⟨g,0,none⟩ x).frozen? ⟨g,1,none⟩=false:=⟨h.cell 0,h.frozen 0,(h.set_ 0 x).cell 1,(h.set_ 0 x).frozen 1⟩
theorem st3 {w:World}{g:Nat}{t:TypeId}{a b c:Value}(h:Blk w g t #[a,b,c])(x y:Value):w.cell? ⟨g,0,none⟩=some a/\w.frozen? ⟨g,0,none⟩=false/\(w.setCell ⟨g,0,none⟩ x).cell? ⟨g,1,none⟩=some b/\(w.setCell ⟨g,0,none⟩ x).frozen? ⟨g,1,none⟩=false/\((w.setCell ⟨g,0,none⟩ x).setCell ⟨g,1,none⟩ y).cell? ⟨g,2,none⟩=some c/\((w.setCell ⟨g,0,none⟩ x).setCell ⟨g,1,none⟩ y).frozen? ⟨g,2,none⟩=false:=
 ⟨h.cell 0,h.frozen 0,(h.set_ 0 x).cell 1,(h.set_ 0 x).frozen 1,((h.set_ 0 x).set_ 1 y).cell 2,((h.set_ 0 x).set_ 1 y).frozen 2⟩
theorem sn1 {w:World}{g:Nat}{t:TypeId}{a:Value}(h:Blk w g t #[a])(x:Value):Blk (w.setCell ⟨g,0,none⟩ x) g t #[x]:=h.set_ 0 x
theorem sn2 {w:World}{g:Nat}{t:TypeId}{a b:Value}(h:Blk w g t #[a,b])(x y:Value):Blk ((w.setCell ⟨g,0,none⟩ x).setCell ⟨g,1,none⟩ y) g t #[x,y]:=(h.set_ 0 x).set_ 1 y
theorem sn3 {w:World}{g:Nat}{t:TypeId}{a b c:Value}(h:Blk w g t #[a,b,c])(x y z:Value):Blk (((w.setCell ⟨g,0,none⟩ x).setCell ⟨g,1,none⟩ y).setCell ⟨g,2,none⟩ z) g t #[x,y,z]:=((h.set_ 0 x).set_ 1 y).set_ 2 z
theorem bl1 {w W:World}{g:Nat}(x:Value)(hg:w.heap.size<=g)(h:Below w.heap.size w W):Below w.heap.size w (W.setCell ⟨g,0,none⟩ x):=zae x hg h
theorem bl2 {w W:World}{g:Nat}(x y:Value)(hg:w.heap.size<=g)(h:Below w.heap.size w W):Below w.heap.size w ((W.setCell ⟨g,0,none⟩ x).setCell ⟨g,1,none⟩ y):=zae y hg (zae x hg h)
theorem bl3 {w W:World}{g:Nat}(x y z:Value)(hg:w.heap.size<=g)(h:Below w.heap.size w W):Below w.heap.size w (((W.setCell ⟨g,0,none⟩ x).setCell ⟨g,1,none⟩ y).setCell ⟨g,2,none⟩ z):=zae z hg (bl2 x y hg h)
theorem gn1 {w W:World}{x g:Nat}{t:TypeId}{A:oA9}{n c:Nat}{q:oA9}{r s:Nat}(h:zad W x A n c)(k:Blk W g t #[.slice q r s])(hB:Below w.heap.size w W)(hg:w.heap.size<=g):zeB w x (.returned (.agg #[.slice A n c])) (W.setCell ⟨g,0,none⟩ (.slice A n c)):=
 ⟨_,_,_,rfl,zat h k (NoU.s1 _ _ _) (zbS _ _ _),bl1 _ hg hB⟩
theorem gi2 {w W:World}{z:Int}{g:Nat}{t:TypeId}{b:Bool}{A:oA9}{n c:Nat}{p:Bool}{q:oA9}{r s:Nat}(h:zaB W z b A n c)(k:Blk W g t #[.bool p,.slice q r s])(hB:Below w.heap.size w W)(hg:w.heap.size<=g):zaV w z (.returned (.agg #[.bool b,.slice A n c])) ((W.setCell ⟨g,0,none⟩ (.bool b)).setCell ⟨g,1,none⟩ (.slice A n c)):=
 ⟨_,_,_,_,rfl,zgF h k (NoU.s2 _ _ _ _) (ziM _ _ _ _),bl2 _ _ hg hB⟩
theorem gq3 {w W:World}{r:Rat}{g:Nat}{t:TypeId}{b:Bool}{A E:oA9}{n c k f:Nat}{p:Bool}{q q2:oA9}{r1 s r2 s2:Nat}(h:zah W r b A n c E k f)(kd:Blk W g t #[.bool p,.slice q r1 s,.slice q2 r2 s2])(hB:Below w.heap.size w W)(hg:w.heap.size<=g):zaI w r (.returned (.agg #[.bool b,.slice A n c,.slice E k f])) (((W.setCell ⟨g,0,none⟩ (.bool b)).setCell ⟨g,1,none⟩ (.slice A n c)).setCell ⟨g,2,none⟩ (.slice E k f)):=
 ⟨_,_,_,_,_,_,_,rfl,zbw h kd (NoU.s3 _ _ _ _ _ _ _) (zdV _ _ _ _ _),bl3 _ _ _ hg hB⟩
theorem gb3 {w W:World}{r:Rat}(u:Bool){g:Nat}{t:TypeId}{b:Bool}{A E:oA9}{n c k f:Nat}{p:Bool}{q q2:oA9}{r1 s r2 s2:Nat}(h:zah W r b A n c E k f)(kd:Blk W g t #[.bool p,.slice q r1 s,.slice q2 r2 s2])(hB:Below w.heap.size w W)(hg:w.heap.size<=g):zbq w r u (.returned (.tuple #[.agg #[.bool b,.slice A n c,.slice E k f],.bool u])) (((W.setCell ⟨g,0,none⟩ (.bool b)).setCell ⟨g,1,none⟩ (.slice A n c)).setCell ⟨g,2,none⟩ (.slice E k f)):=
 ⟨_,_,_,_,_,_,_,rfl,zbw h kd (NoU.s3 _ _ _ _ _ _ _) (zdV _ _ _ _ _),bl3 _ _ _ hg hB⟩
section
variable {P:Program}{ops:Array Oper}{Q:Exit->Act->World->Prop}{S:World->Prop}{fuel:Nat}{l:Array Bool}{a:Act}{w:World}
theorem rgB {id:Nat}(h:Below w.heap.size w w.drew->wpAnyH P .any ops (NoPanic Q) (λw'=>Below w.heap.size w w') ops.size (Array.replicate ops.size false) a w.drew)(hm:P.follows Departure.mixedOrders=true:=by kernel_rfl):Code.wp P (.region id ops true) Q a w:=
 wp_region_noPanic (wp_region_held_drew (S:=λw'=>Below w.heap.size w w') hm (Below.refl _ w).drew h)
theorem tl (i:Nat){cl:List (Addr×Value)}(hc:∀w,S w->Cs w cl){o:Oper}{v:Value}{a':Act}(hn:wpAnyH P .any ops (NoPanic Q) S fuel (l.setIfInBounds i true) a' w)(h1:ops[i]?=some o:=by simp only [List.getElem?_toArray,List.getElem?_cons_succ,List.getElem?_cons_zero];rfl)(h2:Region.noSelect ops=true:=by kernel_rfl)(h3:Region.free .any ops l i=true:=by kernel_rfl)(h4:(Region.ready .any ops l).contains i=true:=by kernel_rfl)(h5:Region.wanted o (yielded ops a.tmps)=true:=by rfl)(h6:∀w,Cs w cl->Sem.run P (execOp a.eval o) w=Result.ok (Next.value v) w:=by((intro w hSw;(try dsimp only [Cs] at hSw);go_simp);(try with_reducible rfl)))(hS:S w:=by with_reducible assumption)(ha:a.put o.dst v=a':=by(simp only [sb9];try rfl)):wpAnyH P .any ops (NoPanic Q) S (fuel+1) l a w:=
 wpAnyH_take h1 h2 h3 h4 (λ_ _ _ h=>h) (Or.inl ⟨h5,λw hs=>h6 w (hc w hs)⟩) hS (ha▸hn)
end
theorem szw {K B x n c:Nat}{A:oA9}{w:World}(h:Hid (Sz K x))(k:zad w x A n c)(e:K<=B:=by omega):n<=B:=Nat.le_trans (h.out.words k) e
theorem szi {K B n c:Nat}{z:Int}{b:Bool}{A:oA9}{w:World}(h:Hid (Sz K z.natAbs))(k:zaB w z b A n c)(e:K<=B:=by omega):n<=B:=Nat.le_trans (h.out.words k.words) e
theorem szq {K n k c f:Nat}{r:Rat}{b:Bool}{A E:oA9}{w:World}(h:Hid (SzQ K r))(q:zah w r b A n c E k f)(e:K<=67108864:=by omega):zaO n k:=SzQ.fit h.out q e
structure zcJ (n m c:Nat)(a s:Nat->Nat->Rat)(ld:List Nat)(p:Rat):Prop where
 len:ld.length<=n
 cm:c<=m
 up:∀l l',l<l'->l'<ld.length->ld.getD l 0<ld.getD l' 0
 lt:∀l,l<ld.length->ld.getD l 0<c
 ne:p≠0
 piv:∀l,l<ld.length->∀i,i<n->s i (ld.getD l 0)=if i=l then p else 0
 low:∀i,ld.length<=i->i<n->∀j,j<c->s i j=0
 fore:∀l,l<ld.length->∀j,j<ld.getD l 0->s l j=0
 back:∀i,i<n->∀j,j<m->p*a i j=zaP ld.length (λl=>a i (ld.getD l 0)*s l j)+if ld.length<=i then s i j else 0
 det:p=zbH ld.length λi j=>a i (ld.getD j 0)
theorem zcJ.start (n m:Nat)(a:Nat->Nat->Rat):zcJ n m 0 a a [] 1 where
 len:=Nat.zero_le _
 cm:=Nat.zero_le _
 up:=λl l' _ h=>by cases h
 lt:=λl h=>by cases h
 ne:=by decide+kernel
 piv:=λl h=>by cases h
 low:=λi _ _ j h=>by cases h
 fore:=λl h=>by cases h
 back:=λi _ j _=>by
  show 1*a i j=zaP 0 _+if 0<=i then a i j else 0
  rw [if_pos (Nat.zero_le _),zhp];grind
 det:=rfl
theorem zcJ.skip {n m c:Nat}{a s:Nat->Nat->Rat}{ld:List Nat}{p:Rat}(h:zcJ n m c a s ld p)(hc:c<m)(h0:∀i,ld.length<=i->i<n->s i c=0):zcJ n m (c+1) a s ld p:=
 { h with
  cm:=hc
  lt:=λl hl=>Nat.lt_succ_of_lt (h.lt l hl)
  low:=λi h1 h2 j hj=>by
   rcases Nat.lt_or_ge j c with e|e
   ·exact h.low i h1 h2 j e
   ·rw [show j=c by omega];exact h0 i h1 h2}
def swp (r q:Nat)(s:Nat->Nat->Rat):Nat->Nat->Rat:=λi j=>if i=r then s q j else if i=q then -s r j else s i j
theorem sumN_neg (k:Nat)(f:Nat->Rat):zaP k (λi=> -f i)= -zaP k f:=by
 have:=zbb k (-1) f
 rw [show(-1:Rat)*zaP k f= -zaP k f by grind] at this
 rw [this]
 exact zau λi _=>by grind
theorem zcJ.swap {n m c:Nat}{a s:Nat->Nat->Rat}{ld:List Nat}{p:Rat}(h:zcJ n m c a s ld p){q:Nat}(h1:ld.length<q)(h2:q<n):zcJ n m c (swp ld.length q a) (swp ld.length q s) ld p where
 len:=h.len
 cm:=h.cm
 up:=h.up
 lt:=h.lt
 ne:=h.ne
 piv:=λl hl i hi=>by
  unfold swp
  by_cases e1:i=ld.length
  ·rw [if_pos e1,if_neg (by omega),h.piv l hl q h2,if_neg (by omega)]
  ·rw [if_neg e1]
   by_cases e2:i=q
   ·rw [if_pos e2,if_neg (by omega),h.piv l hl ld.length (by omega),if_neg (by omega),Rat.neg_zero]
   ·rw [if_neg e2,h.piv l hl i hi]
 low:=λi hi hi2 j hj=>by
  unfold swp
  split
  ·exact h.low q (by omega) h2 j hj
  ·split
   ·rw [h.low ld.length (Nat.le_refl _) (by omega) j hj,Rat.neg_zero]
   ·exact h.low i hi hi2 j hj
 fore:=λl hl j hj=>by
  unfold swp
  rw [if_neg (by omega),if_neg (by omega)];exact h.fore l hl j hj
 back:=λi hi j hj=>by
  have hs:∀i,zaP ld.length (λl=>swp ld.length q a i (ld.getD l 0)*swp ld.length q s l j)=zaP ld.length (λl=>swp ld.length q a i (ld.getD l 0)*s l j):=λi=>zau λl hl=>by
   rw [show swp ld.length q s l j=s l j by unfold swp;rw [if_neg (by omega),if_neg (by omega)]]
  rw [hs]
  by_cases e1:i=ld.length
  ·subst e1
   have:=h.back q h2 j hj
   rw [if_pos (by omega)] at this⊢
   simp only [swp,if_true]
   exact this
  ·by_cases e2:i=q
   ·subst e2
    have:=h.back ld.length (by omega) j hj
    rw [if_pos (by omega)] at this⊢
    simp only [swp,if_neg e1,if_true]
    have e:zaP ld.length (λl=> -a ld.length (ld.getD l 0)*s l j)= -zaP ld.length (λl=>a ld.length (ld.getD l 0)*s l j):=by
     rw [<-sumN_neg];exact zau λl _=>by grind
    rw [e]
    grind
   ·have:=h.back i hi j hj
    simp only [swp,if_neg e1,if_neg e2]
    exact this
 det:=by
  rw [h.det]
  exact zcK λi hi j _=>by unfold swp;rw [if_neg (by omega),if_neg (by omega)]
def clr (k c:Nat)(p:Rat)(s:Nat->Nat->Rat):Nat->Nat->Rat:=λi j=>if i=k then s k j else p⁻¹*(s k c*s i j+ -s i c*s k j)
theorem zbY {ld:List Nat}{c l:Nat}(h:l<ld.length):(ld++[c]).getD l 0=ld.getD l 0:=by
 rw [List.getD_eq_getElem?_getD,List.getD_eq_getElem?_getD,List.getElem?_append_left h]
theorem zcu (ld:List Nat)(c:Nat):(ld++[c]).getD ld.length 0=c:=by
 rw [List.getD_eq_getElem?_getD,List.getElem?_append_right (Nat.le_refl _),Nat.sub_self];rfl
theorem zdp (ld:List Nat)(c:Nat):(ld++[c]).length=ld.length+1:=by simp
theorem zcJ.col {n m c:Nat}{a s:Nat->Nat->Rat}{ld:List Nat}{p:Rat}(h:zcJ n m c a s ld p){l j:Nat}(hl:l<ld.length)(hj:j<m):s l j=zbH ld.length (zbI (λi j=>a i (ld.getD j 0)) l λi=>a i j):=by
 have e1:=zgf (n:=ld.length) (λi j=>a i (ld.getD j 0)) hl p (λi=>a i j)
 have e2:zbH ld.length (zbI (λi j=>a i (ld.getD j 0)) l λi=>p*a i j)=zbH ld.length (zbI (λi j=>a i (ld.getD j 0)) l λi=>zaP ld.length λq=>s q j*a i (ld.getD q 0)):=zcK λi hi j' _=>by
  by_cases e:j'=l
  ·subst e
   rw [zcf,zcf,h.back i (by have:=h.len;omega) j hj,if_neg (by omega),Rat.add_zero]
   exact zau λq _=>Rat.mul_comm _ _
  ·rw [zcg _ e,zcg _ e]
 rw [e2,zgA _ hl (λq=>s q j) (λq i=>a i (ld.getD q 0))] at e1
 have e3:∀q,q<ld.length->s q j*zbH ld.length (zbI (λi j=>a i (ld.getD j 0)) l λi=>a i (ld.getD q 0))=(s l j*p)*if q=l then 1 else 0:=λq hq=>by
  by_cases e:q=l
  ·subst e
   rw [if_pos rfl,zfN (λi j=>a i (ld.getD j 0)) q,<-h.det,Rat.mul_one]
  ·rw [if_neg e,zio (M:=λi j=>a i (ld.getD j 0)) hl hq (Ne.symm e),Rat.mul_zero,Rat.mul_zero]
 rw [zau e3] at e1
 have e4:zaP ld.length (λq=>(s l j*p)*if q=l then 1 else 0)=s l j*p:=by
  clear e1 e2 e3
  have:∀k,l<k->zaP k (λq=>(s l j*p)*if q=l then 1 else 0)=s l j*p:=by
   intro k
   induction k with
   |zero=>intro h;cases h
   |succ k ih=>
     intro hk
     rw [zaQ]
     by_cases e:k=l
     ·subst e
      rw [if_pos rfl,zcv λi hi=>by rw [if_neg (by omega),Rat.mul_zero],Rat.zero_add,Rat.mul_one]
     ·rw [if_neg e,Rat.mul_zero,Rat.add_zero,ih (by omega)]
  exact this _ hl
 rw [e4] at e1
 have:=h.ne
 grind
theorem zcJ.lead {n m c:Nat}{a s:Nat->Nat->Rat}{ld:List Nat}{p:Rat}(h:zcJ n m c a s ld p)(hc:c<m)(hk:ld.length<n):s ld.length c=zbH (ld.length+1) λi j=>a i ((ld++[c]).getD j 0):=by
 have hB:∀(f:Nat->Nat->Rat),(f=λi j=>a i ((ld++[c]).getD j 0))->s ld.length c=zbH (ld.length+1) f:=by
  intro f hf
  have hk1:ld.length<ld.length+1:=Nat.lt_succ_self _
  have e1:=zgf (n:=ld.length+1) f hk1 p (λi=>f i ld.length)
  rw [zfN f] at e1
  have ff:∀i l,l<ld.length->f i l=a i (ld.getD l 0):=λi l hl=>by rw [hf];show a i _=_;rw [zbY hl]
  have fc:∀i,f i ld.length=a i c:=λi=>by rw [hf];show a i _=_;rw [zcu]
  have e2:zbH (ld.length+1) (zbI f ld.length λi=>p*f i ld.length)=zbH (ld.length+1) (zbI f ld.length λi=>1*(zaP ld.length λq=>s q c*f i q)+s ld.length c*if i=ld.length then 1 else 0):=zcK λi hi j' _=>by
   by_cases e:j'=ld.length
   ·subst e
    rw [zcf,zcf,fc,h.back i (by omega) c hc,Rat.one_mul]
    congr 1
    ·exact zau λq hq=>by rw [ff i q hq,Rat.mul_comm]
    ·by_cases e:i=ld.length
     ·rw [if_pos (by omega),if_pos e,e,Rat.mul_one]
     ·rw [if_neg (by omega),if_neg e,Rat.mul_zero]
   ·rw [zcg _ e,zcg _ e]
  rw [e2,zdI f hk1 1 (s ld.length c) (λi=>zaP ld.length λq=>s q c*f i q) (λi=>if i=ld.length then 1 else 0),zgA f hk1 (λq=>s q c) (λq i=>f i q)] at e1
  rw [zcv λq hq=>by rw [zio hk1 (by omega) (by omega),Rat.mul_zero]] at e1
  rw [zhw ld.length (M:=zbI f ld.length λi=>if i=ld.length then 1 else 0) (λi hi=>by rw [zcf,if_neg (by omega)]),zcf,if_pos rfl] at e1
  have e3:zbH ld.length (zbI f ld.length λi=>if i=ld.length then 1 else 0)=p:=by
   rw [h.det]
   exact zcK λi hi j hj=>by rw [zcg _ (by omega),ff i j hj]
  rw [e3] at e1
  have:=h.ne
  grind
 exact hB _ rfl
theorem zcJ.clear {n m c:Nat}{a s:Nat->Nat->Rat}{ld:List Nat}{p:Rat}(h:zcJ n m c a s ld p)(hc:c<m)(hk:ld.length<n)(h0:s ld.length c≠0):zcJ n m (c+1) a (clr ld.length c p s) (ld++[c]) (s ld.length c) where
 len:=by rw [zdp];omega
 cm:=hc
 up:=λl l' h1 h2=>by
  rw [zdp] at h2
  rw [zbY (by omega)]
  by_cases e:l'=ld.length
  ·subst e;rw [zcu];exact h.lt l h1
  ·rw [zbY (by omega)];exact h.up l l' h1 (by omega)
 lt:=λl hl=>by
  rw [zdp] at hl
  by_cases e:l=ld.length
  ·subst e;rw [zcu];omega
  ·rw [zbY (by omega)];exact Nat.lt_succ_of_lt (h.lt l (by omega))
 ne:=h0
 piv:=λl hl i hi=>by
  have hne:=h.ne
  rw [zdp] at hl
  unfold clr
  by_cases e:l=ld.length
  ·subst e
   rw [zcu]
   by_cases e2:i=ld.length
   ·rw [if_pos e2,if_pos e2]
   ·rw [if_neg e2,if_neg e2];grind
  ·have hl':l<ld.length:=by omega
   rw [zbY hl']
   have e3:=h.piv l hl' ld.length hk
   rw [if_neg (by omega)] at e3
   by_cases e2:i=ld.length
   ·rw [if_pos e2,if_neg (by omega),e3]
   ·rw [if_neg e2,e3,h.piv l hl' i hi]
    by_cases e4:i=l
    ·rw [if_pos e4,if_pos e4];grind
    ·rw [if_neg e4,if_neg e4];grind
 low:=λi hi hi2 j hj=>by
  rw [zdp] at hi
  unfold clr
  rw [if_neg (by omega)]
  by_cases e:j=c
  ·subst e;grind
  ·rw [h.low i (by omega) hi2 j (by omega),h.low ld.length (Nat.le_refl _) hk j (by omega)];grind
 fore:=λl hl j hj=>by
  rw [zdp] at hl
  unfold clr
  by_cases e:l=ld.length
  ·subst e
   rw [zcu] at hj
   rw [if_pos rfl];exact h.low _ (Nat.le_refl _) hk j hj
  ·have hl':l<ld.length:=by omega
   rw [zbY hl'] at hj
   have:=h.lt l hl'
   rw [if_neg e,h.fore l hl' j hj,h.low ld.length (Nat.le_refl _) hk j (by omega)];grind
 back:=λi hi j hj=>by
  have hne:=h.ne
  have e1:=h.back i hi j hj
  have e2:=h.back i hi c hc
  rw [zdp,zaQ,zcu]
  have e3:zaP ld.length (λl=>a i ((ld++[c]).getD l 0)*clr ld.length c p s l j)=p⁻¹*(s ld.length c*zaP ld.length (λl=>a i (ld.getD l 0)*s l j)+ -(s ld.length j)*zaP ld.length (λl=>a i (ld.getD l 0)*s l c)):=by
   rw [zbb,zbb,<-zgR,zbb]
   refine zau λl hl=>?_
   rw [zbY hl]
   unfold clr
   rw [if_neg (by omega)]
   grind
  have e4:clr ld.length c p s ld.length j=s ld.length j:=if_pos rfl
  rw [e3,e4]
  generalize zaP ld.length (λl=>a i (ld.getD l 0)*s l j)=x at*
  generalize zaP ld.length (λl=>a i (ld.getD l 0)*s l c)=y at*
  by_cases e5:ld.length+1<=i
  ·rw [if_pos e5]
   rw [if_pos (by omega)] at e1 e2
   unfold clr
   rw [if_neg (by omega)]
   generalize a i j=u at*
   generalize a i c=v at*
   generalize s i j=z at*
   generalize s i c=t at*
   generalize s ld.length j=r at*
   generalize s ld.length c=q at*
   grind
  ·rw [if_neg e5]
   by_cases e6:i=ld.length
   ·subst e6
    rw [if_pos (Nat.le_refl _)] at e1 e2
    grind
   ·rw [if_neg (by omega)] at e1 e2
    grind
 det:=by
  rw [zdp]
  exact h.lead hc hk
