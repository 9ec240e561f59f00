/- What this claim leans on. -/
import Derived.Test.YtlgnacmgepnamaaGreatDoorMBun7
import Derived.Test.YtlgnacmgepnamaaGreatDoorMBunR
import Derived.Test.YtlgnacmgepnamaaGreatDoorMBunY
import Derived.Laws.Concat
namespace Go.Proofs.YtlgnacmgepnamaaGreatDoor
open Go Go.RowKit
set_option maxHeartbeats 16000000
set_option linter.unusedVariables false
def Cs (w:World):List (Addr×Value)->Prop
 |[]=>True
 |q::t=>w.cell? q.1=some q.2/\Cs w t
theorem csn {w:World}:Cs w []:=trivial
theorem csc {w:World}{p:Addr}{v:Value}{l:List (Addr×Value)}(h:w.cell? p=some v)(t:Cs w l):Cs w ((p,v)::l):=⟨h,t⟩
theorem Cs.below {w w':World}{l:List (Addr×Value)}(h:Cs w l)(hb:Below w.heap.size w w'):Cs w' l:=by
 induction l with
 |nil=>trivial
 |cons q t ih=>exact⟨zae hb h.1,ih h.2⟩
theorem Cs.drew {w:World}{l:List (Addr×Value)}(h:Cs w l):Cs w.drew l:=by
 induction l with
 |nil=>trivial
 |cons q t ih=>exact⟨h.1,ih h.2⟩
def OffL (g:Nat):List (Addr×Value)->Prop
 |[]=>True
 |q::t=>q.1.block≠g/\OffL g t
theorem Cs.far {w w':World}{g:Nat}{l:List (Addr×Value)}(h:Cs w l)(hf:zde g w w')(hn:OffL g l):Cs w' l:=by
 induction l with
 |nil=>trivial
 |cons q t ih=>exact⟨(hf.2 q.1 hn.1).trans h.1,ih h.2 hn.2⟩
theorem cs2 {w:World}{g:Nat}{l:List (Addr×Value)}(x y:Value)(h:Cs w l)(hn:OffL g l:=by(simp only [OffL,and_true];try omega)):Cs ((w.setCell ⟨g,0,none⟩ x).setCell ⟨g,1,none⟩ y) l:=h.far (zdA w g x y) hn
theorem cs3 {w:World}{g:Nat}{l:List (Addr×Value)}(x y z:Value)(h:Cs w l)(hn:OffL g l:=by(simp only [OffL,and_true];try omega)):Cs (((w.setCell ⟨g,0,none⟩ x).setCell ⟨g,1,none⟩ y).setCell ⟨g,2,none⟩ z) l:=h.far (off3 w g x y z) hn
theorem sb9:(∀(a:Act) (d:Nat) (v:Value),a.put (some d) v={tmps:=a.tmps.setIfInBounds d v,defers:=a.defers})/\(∀(a:Act) (v:Value),a.put none v=a)/\(∀(l:List Value) (i:Nat) (v:Value),l.toArray.setIfInBounds i v=(l.set i v).toArray)/\(∀(x:Value) (l:List Value) (v:Value),(x::l).set 0 v=v::l)/\(∀(x:Value) (l:List Value) (i:Nat) (v:Value),(x::l).set (i+1) v=x::l.set i v):=
 ⟨λ_ _ _=>rfl,λ_ _=>rfl,λ_ _ _=>List.setIfInBounds_toArray ..,λ_ _ _=>rfl,λ_ _ _ _=>rfl⟩
section
variable {P:Program}{ops:Array Oper}{Q:Exit->Act->World->Prop}{S:World->Prop}{fuel:Nat}{l:Array Bool}{a:Act}{w:World}
theorem rg {id:Nat}{cl:List (Addr×Value)}(h0:Cs w cl)(h:Cs w.drew cl->wpAnyH P .any ops (NoPanic Q) (λw'=>Cs w' cl) ops.size (Array.replicate ops.size false) a w.drew)(hm:P.follows Departure.mixedOrders=true:=by kernel_rfl):Code.wp P (.region id ops true) Q a w:=
 wp_region_noPanic (wp_region_held_drew (S:=λw'=>Cs w' cl) hm h0.drew h)
theorem tk (i:Nat){o:Oper}{v:Value}{a':Act}(hn:wpAnyH P .any ops (NoPanic Q) S fuel (l.setIfInBounds i true) a' w)(h1:ops[i]?=some o:=by simp only [List.getElem?_toArray,List.getElem?_cons_succ,List.getElem?_cons_zero];rfl)(h2:Region.noSelect ops=true:=by kernel_rfl)(h3:Region.free .any ops l i=true:=by kernel_rfl)(h4:(Region.ready .any ops l).contains i=true:=by kernel_rfl)(h5:Region.wanted o (yielded ops a.tmps)=true:=by rfl)(h6:∀w,S w->Sem.run P (execOp a.eval o) w=Result.ok (Next.value v) w:=by((intro w hSw;(try dsimp only [Cs] at hSw);go_simp);(try with_reducible rfl)))(hS:S w:=by with_reducible assumption)(ha:a.put o.dst v=a':=by(simp only [sb9];try rfl)):wpAnyH P .any ops (NoPanic Q) S (fuel+1) l a w:=
 wpAnyH_take h1 h2 h3 h4 (λ_ _ _ h=>h) (Or.inl ⟨h5,h6⟩) hS (ha▸hn)
theorem tu (i:Nat){o:Oper}{a':Act}(hn:wpAnyH P .any ops (NoPanic Q) S fuel (l.setIfInBounds i true) a' w)(h1:ops[i]?=some o:=by simp only [List.getElem?_toArray,List.getElem?_cons_succ,List.getElem?_cons_zero];rfl)(h2:Region.noSelect ops=true:=by kernel_rfl)(h3:Region.free .any ops l i=true:=by kernel_rfl)(h4:(Region.ready .any ops l).contains i=true:=by kernel_rfl)(h5:Region.wanted o (yielded ops a.tmps)=false:=by rfl)(hS:S w:=by with_reducible assumption)(ha:a.put o.dst undef=a':=by(simp only [sb9];try rfl)):wpAnyH P .any ops (NoPanic Q) S (fuel+1) l a w:=
 wpAnyH_take h1 h2 h3 h4 (λ_ _ _ h=>h) (Or.inr ⟨h5,rfl⟩) hS (ha▸hn)
theorem rc (i:Nat){o:Oper}(hk:∀K':Act->World->Prop,Shut (∀(a:Act)(w:World),S w->(S w->wpAnyH P .any ops (NoPanic Q) S fuel (l.setIfInBounds i true) a w)->K' a w)->Oper.wp P o a w K' (NoPanic Q))(h1:ops[i]?=some o:=by simp only [List.getElem?_toArray,List.getElem?_cons_succ,List.getElem?_cons_zero];rfl)(h2:Region.ready .any ops l=[i]:=by kernel_rfl)(h3:Region.wanted o (yielded ops a.tmps)=true:=by rfl):wpAnyH P .any ops (NoPanic Q) S (fuel+1) l a w:=
 wpAnyH_ready h2 (by simp) (AllReadyH.cons h1 (λK' hK=>by rw [if_pos h3];exact hk K' hK) AllReadyH.nil)
theorem rdn (h:Q .normal a w)(hr:Region.ready .any ops l=[]:=by kernel_rfl):wpAnyH P .any ops (NoPanic Q) S fuel l a w:=wpAnyH_done hr (NoPanic.normal h) fuel
variable {ops0:Array Oper}{md:Region.Mode}{i:Nat}
theorem rdp (d k:Nat){o:Oper}{e:Edge}(hi:i ∈ Region.ready md ops l)(hO:ops=ops0)(ho:ops0[i]?=some o:=by simp only [List.getElem?_toArray,List.getElem?_cons_succ,List.getElem?_cons_zero];rfl)(he:o.after[k]?=some e:=by rfl)(hb:Region.binds md e=true:=by rfl)(hd:e.on=d:=by rfl):l.getD d false=true:=by
 subst hO;subst hd;exact zpE hi ho he hb
theorem als (i:Nat){o:Oper}(h:Region.ready md ops l=[])(hO:ops=ops0)(ho:ops0[i]?=some o:=by simp only [List.getElem?_toArray,List.getElem?_cons_succ,List.getElem?_cons_zero];rfl)(hr:(o.after.toList.all λe=> !Region.binds md e||l.getD e.on false)=true:=by rfl):l.getD i true=true:=by
 subst hO;exact zmG h ho hr
theorem gdl (i:Nat){L l:Array Bool}(h:L=l):l.getD i false=L.getD i false:=by rw [h]
theorem Gd.off {b:Bool}(h:Gd b (false=true)):b=false:=by
 cases b
 ·rfl
 ·exact absurd (h rfl) (by decide)
theorem wog {o:Oper}{K:Act->World->Prop}{Q:Exit->Act->World->Prop}(hO:ops=ops0)(h:∀K':Act->World->Prop,Shut (∀a w,K a w->K' a w)->Oper.wp P o a w K' Q)(ho:ops0[i]?=some o:=by simp only [List.getElem?_toArray,List.getElem?_cons_succ,List.getElem?_cons_zero];rfl)(hg:o.guard=none:=by rfl):wpOp P ops Q i K a w:=by
 subst hO;exact wpOp_go ho hg h
theorem kq0 {f:Bool}{a:Act}{x i:Nat}{u v:Value}(h:Gd f (a.tmps.getD x undef=u))(hn:x≠i:=by decide):Gd f ((a.put (some i) v).tmps.getD x undef=u):=h.mono λh=>(rd_ne hn _).trans h
theorem kq {f:Bool}{a:Act}{x i:Nat}{u v:Value}{p q:Prop}(h:Gd f (a.tmps.getD x undef=u/\p))(g:p->q)(hn:x≠i:=by decide):Gd f ((a.put (some i) v).tmps.getD x undef=u/\q):=h.mono λh=>⟨(rd_ne hn _).trans h.1,g h.2⟩
end
theorem Blk.c1 {w:World}{g:Nat}{t:TypeId}{x:Value}(h:Blk w g t #[x]):w.cell? ⟨g,0,none⟩=some x:=h.cell 0
theorem Blk.c2 {w:World}{g:Nat}{t:TypeId}{x y:Value}(h:Blk w g t #[x,y]):w.cell? ⟨g,0,none⟩=some x/\w.cell? ⟨g,1,none⟩=some y:=⟨h.cell 0,h.cell 1⟩
theorem Blk.c3 {w:World}{g:Nat}{t:TypeId}{x y z:Value}(h:Blk w g t #[x,y,z]):w.cell? ⟨g,0,none⟩=some x/\w.cell? ⟨g,1,none⟩=some y/\w.cell? ⟨g,2,none⟩=some z:=⟨h.cell 0,h.cell 1,h.cell 2⟩
theorem st1 {w:World}{g:Nat}{t:TypeId}{a:Value}(h:Blk w g t #[a]):w.cell? ⟨g,0,none⟩=some a/\w.frozen? ⟨g,0,none⟩=false:=⟨h.cell 0,h.frozen 0⟩
theorem st2 {w:World}{g:Nat}{t:TypeId}{a b:Value}(h:Blk w g t #[a,b])(x:Value):w.cell? ⟨g,0,none⟩=some a/\w.frozen? ⟨g,0,none⟩=false/\(w.setCell ⟨g,0,none⟩ x).cell? ⟨g,1,none⟩=some b/\(w.setCell ⟨g,0,none⟩ x).frozen? ⟨g,1,none⟩=false:=⟨h.cell 0,h.frozen 0,(h.set_ 0 x).cell 1,(h.set_ 0 x).frozen 1⟩
theorem st3 {w:World}{g:Nat}{t:TypeId}{a b c:Value}(h:Blk w g t #[a,b,c])(x y:Value):w.cell? ⟨g,0,none⟩=some a/\w.frozen? ⟨g,0,none⟩=false/\(w.setCell ⟨g,0,none⟩ x).cell? ⟨g,1,none⟩=some b/\(w.setCell ⟨g,0,none⟩ x).frozen? ⟨g,1,none⟩=false/\((w.setCell ⟨g,0,none⟩ x).setCell ⟨g,1,none⟩ y).cell? ⟨g,2,none⟩=some c/\((w.setCell ⟨g,0,none⟩ x).setCell ⟨g,1,none⟩ y).frozen? ⟨g,2,none⟩=false:=
 ⟨h.cell 0,h.frozen 0,(h.set_ 0 x).cell 1,(h.set_ 0 x).frozen 1,((h.set_ 0 x).set_ 1 y).cell 2,((h.set_ 0 x).set_ 1 y).frozen 2⟩
theorem sn1 {w:World}{g:Nat}{t:TypeId}{a:Value}(h:Blk w g t #[a])(x:Value):Blk (w.setCell ⟨g,0,none⟩ x) g t #[x]:=h.set_ 0 x
theorem sn2 {w:World}{g:Nat}{t:TypeId}{a b:Value}(h:Blk w g t #[a,b])(x y:Value):Blk ((w.setCell ⟨g,0,none⟩ x).setCell ⟨g,1,none⟩ y) g t #[x,y]:=(h.set_ 0 x).set_ 1 y
theorem sn3 {w:World}{g:Nat}{t:TypeId}{a b c:Value}(h:Blk w g t #[a,b,c])(x y z:Value):Blk (((w.setCell ⟨g,0,none⟩ x).setCell ⟨g,1,none⟩ y).setCell ⟨g,2,none⟩ z) g t #[x,y,z]:=((h.set_ 0 x).set_ 1 y).set_ 2 z
theorem bl1 {w W:World}{g:Nat}(x:Value)(hg:w.heap.size<=g)(h:Below w.heap.size w W):Below w.heap.size w (W.setCell ⟨g,0,none⟩ x):=zaf x hg h
theorem bl2 {w W:World}{g:Nat}(x y:Value)(hg:w.heap.size<=g)(h:Below w.heap.size w W):Below w.heap.size w ((W.setCell ⟨g,0,none⟩ x).setCell ⟨g,1,none⟩ y):=zaf y hg (zaf x hg h)
theorem bl3 {w W:World}{g:Nat}(x y z:Value)(hg:w.heap.size<=g)(h:Below w.heap.size w W):Below w.heap.size w (((W.setCell ⟨g,0,none⟩ x).setCell ⟨g,1,none⟩ y).setCell ⟨g,2,none⟩ z):=zaf z hg (bl2 x y hg h)
theorem gn1 {w W:World}{x g:Nat}{t:TypeId}{A:oA9}{n c:Nat}{q:oA9}{r s:Nat}(h:zag W x A n c)(k:Blk W g t #[.slice q r s])(hB:Below w.heap.size w W)(hg:w.heap.size<=g):zey w x (.returned (.agg #[.slice A n c])) (W.setCell ⟨g,0,none⟩ (.slice A n c)):=
 ⟨_,_,_,rfl,zax h k (NoU.s1 _ _ _) (zbP _ _ _),bl1 _ hg hB⟩
theorem gi2 {w W:World}{z:Int}{g:Nat}{t:TypeId}{b:Bool}{A:oA9}{n c:Nat}{p:Bool}{q:oA9}{r s:Nat}(h:zaF W z b A n c)(k:Blk W g t #[.bool p,.slice q r s])(hB:Below w.heap.size w W)(hg:w.heap.size<=g):zbb w z (.returned (.agg #[.bool b,.slice A n c])) ((W.setCell ⟨g,0,none⟩ (.bool b)).setCell ⟨g,1,none⟩ (.slice A n c)):=
 ⟨_,_,_,_,rfl,zgw h k (NoU.s2 _ _ _ _) (zdA _ _ _ _),bl2 _ _ hg hB⟩
theorem gq3 {w W:World}{r:Rat}{g:Nat}{t:TypeId}{b:Bool}{A E:oA9}{n c k f:Nat}{p:Bool}{q q2:oA9}{r1 s r2 s2:Nat}(h:zan W r b A n c E k f)(kd:Blk W g t #[.bool p,.slice q r1 s,.slice q2 r2 s2])(hB:Below w.heap.size w W)(hg:w.heap.size<=g):zaP w r (.returned (.agg #[.bool b,.slice A n c,.slice E k f])) (((W.setCell ⟨g,0,none⟩ (.bool b)).setCell ⟨g,1,none⟩ (.slice A n c)).setCell ⟨g,2,none⟩ (.slice E k f)):=
 ⟨_,_,_,_,_,_,_,rfl,zib h kd (NoU.s3 _ _ _ _ _ _ _) (off3 _ _ _ _ _),bl3 _ _ _ hg hB⟩
theorem gb3 {w W:World}{r:Rat}(u:Bool){g:Nat}{t:TypeId}{b:Bool}{A E:oA9}{n c k f:Nat}{p:Bool}{q q2:oA9}{r1 s r2 s2:Nat}(h:zan W r b A n c E k f)(kd:Blk W g t #[.bool p,.slice q r1 s,.slice q2 r2 s2])(hB:Below w.heap.size w W)(hg:w.heap.size<=g):zdl w r u (.returned (.tuple #[.agg #[.bool b,.slice A n c,.slice E k f],.bool u])) (((W.setCell ⟨g,0,none⟩ (.bool b)).setCell ⟨g,1,none⟩ (.slice A n c)).setCell ⟨g,2,none⟩ (.slice E k f)):=
 ⟨_,_,_,_,_,_,_,rfl,zib h kd (NoU.s3 _ _ _ _ _ _ _) (off3 _ _ _ _ _),bl3 _ _ _ hg hB⟩
section
variable {P:Program}{ops:Array Oper}{Q:Exit->Act->World->Prop}{S:World->Prop}{fuel:Nat}{l:Array Bool}{a:Act}{w:World}
theorem rgB {id:Nat}(h:Below w.heap.size w w.drew->wpAnyH P .any ops (NoPanic Q) (λw'=>Below w.heap.size w w') ops.size (Array.replicate ops.size false) a w.drew)(hm:P.follows Departure.mixedOrders=true:=by kernel_rfl):Code.wp P (.region id ops true) Q a w:=
 wp_region_noPanic (wp_region_held_drew (S:=λw'=>Below w.heap.size w w') hm (Below.refl _ w).drew h)
theorem tl (i:Nat){cl:List (Addr×Value)}(hc:∀w,S w->Cs w cl){o:Oper}{v:Value}{a':Act}(hn:wpAnyH P .any ops (NoPanic Q) S fuel (l.setIfInBounds i true) a' w)(h1:ops[i]?=some o:=by simp only [List.getElem?_toArray,List.getElem?_cons_succ,List.getElem?_cons_zero];rfl)(h2:Region.noSelect ops=true:=by kernel_rfl)(h3:Region.free .any ops l i=true:=by kernel_rfl)(h4:(Region.ready .any ops l).contains i=true:=by kernel_rfl)(h5:Region.wanted o (yielded ops a.tmps)=true:=by rfl)(h6:∀w,Cs w cl->Sem.run P (execOp a.eval o) w=Result.ok (Next.value v) w:=by((intro w hSw;(try dsimp only [Cs] at hSw);go_simp);(try with_reducible rfl)))(hS:S w:=by with_reducible assumption)(ha:a.put o.dst v=a':=by(simp only [sb9];try rfl)):wpAnyH P .any ops (NoPanic Q) S (fuel+1) l a w:=
 wpAnyH_take h1 h2 h3 h4 (λ_ _ _ h=>h) (Or.inl ⟨h5,λw hs=>h6 w (hc w hs)⟩) hS (ha▸hn)
end
theorem szw {K B x n c:Nat}{A:oA9}{w:World}(h:Hid (Sz K x))(k:zag w x A n c)(e:K<=B:=by omega):n<=B:=Nat.le_trans (h.out.words k) e
theorem szi {K B n c:Nat}{z:Int}{b:Bool}{A:oA9}{w:World}(h:Hid (Sz K z.natAbs))(k:zaF w z b A n c)(e:K<=B:=by omega):n<=B:=Nat.le_trans (h.out.words k.words) e
theorem szq {K n k c f:Nat}{r:Rat}{b:Bool}{A E:oA9}{w:World}(h:Hid (SzQ K r))(q:zan w r b A n c E k f)(e:K<=67108864:=by omega):zaX n k:=SzQ.fit h.out q e
theorem Sz.len16' {K x:Nat}(h:Sz K x):(dg 65536 x).length<=4*K:=zaJ (by decide) _ _ (by rw [zfm];exact h)
theorem Sz.holds' {K x:Nat}(h:Sz K x){w:World}{A:oA9}{n c:Nat}(hw:zak w x A n c):n<=4*K:=by rw [hw.len];exact h.len16'
theorem zoz (cs:Array Value)(l:List Nat)(w:World)(g n x:Nat)(hk:Blk w g 121 cs)(hn:cs.size=n)(hv:cs.toList=zaw .u64 l)(hd:Dgs 18446744073709551616 l)(hx:dv 18446744073709551616 l=x)(hs:n<=1000):
  Calls Tryz.prog 93 #[.slice (some ⟨g,0,none⟩) n n] w (zbs w x):=by
 have hl:l.length=n:=by
  have h:=congrArg List.length hv
  rw [zaC] at h
  rw [<-h];simpa using hn
 have:=ref2_of (some ⟨g,0,none⟩) n n l w (zdg hk hn (by rw [hv,List.take_of_length_le (by rw [zaC];omega)]) hl) hd (by omega)
 rw [hx] at this
 exact this
set_option maxRecDepth 100000
def SaysYes (w:World)(e:Ending)(w':World):Prop:=e=.returned (.bool true)/\Below w.heap.size w w'
theorem zdK (x:Nat)(A D:oA9)(n c m d:Nat)(w:World)(hA:zag w x A n c)(hD:zak w x D m d)(hn:n<=1099511627776)(hm:m<=1099511627776):
  Calls Tryz.prog 96 #[.agg #[.slice A n c],.slice D m d] w (SaysYes w):=by
 have HW:=(λw' (hb:Below w.heap.size w w')=>zcP x A n c w' (hA.below hb) hn)
 have HR:=lh9 (λw' (hb:Below w.heap.size w w')=>ziM x D m d w' (hD.below hb) hm)
 have HI:=lh9 (λw' (hb:Below w.heap.size w w') A1 c1 (h:zau w' w'.heap.size 1 A1 n (zaw .u64 (dg 18446744073709551616 x)))=>ref2_is x D A1 m d n c1 w' (hD.below hb) hm h hn)
 have hlen:=hA.len
 unfold zfa at HW HR
 rw [hlen] at HW HR
 have HWS:=lh9 HW
 have HRS:=lh9 HR
 clear HW HR hlen hA hD
 go_enter Tryz.func96,Tryz.ntmps96
 go_wp2_with fail
 obtain⟨b1,b2,b5⟩:=zaD w 44 #[.slice A n c]
 refine(HWS.out _ b1).mono ?_
 rintro e w1 ⟨A1,c1,rfl,hr1,h1,⟨h2,_⟩,hb⟩
 have hB:=zac b1 hb
 have g1:w1.cell? ⟨w.heap.size,0,none⟩=some (.slice A n c):=zae hb (b2.cell 0)
 clear hb b1 b2 b5
 go_wp2_with fail
 refine(HI.out _ hB A1 c1 hr1).mono ?_
 rintro e w2 ⟨rfl,hb⟩
 have hB:=zac hB hb
 have g1:=zae hb g1
 clear hb hr1
 go_wp2_with fail
 refine(zby x _ _ _ _).mono ?_
 rintro e w3 ⟨rfl,hb⟩
 have hB:=zac hB hb
 clear hb g1
 go_wp2_with fail
 refine(HRS.out _ hB).mono ?_
 rintro e w4 ⟨A2,c2,rfl,_,_,_,hb⟩
 have hB:=zac hB hb
 clear hb
 go_wp2
 go_ret
 exact⟨rfl,hB⟩
set_option linter.unusedSimpArgs false
theorem zbY {T:World->Prop}:IntC T where
 new s x A n c w _ hA hn:=zlE s x A n c w hA (by omega)
 of z w _ h1 h2:=zna z w h1 h2
 belowI z b A n c w _ hA hn:=zjg z b A n c w hA
 abs z b A n c w _ hA hn:=(zlA z b A n c w hA (by omega)).mono λ_ _ ⟨A',n',c',he,hw,hb,_⟩=>⟨A',n',c',he,hw,hb⟩
 sign z b A n c w _ hA hn:=zkx z b A n c w hA
 cmp x y b b' A D n m c d w _ hA hD hn hm:=zlC x y b b' A D n m c d w hA hD (by omega) (by omega)
 add x y b b' A D n m c d w _ hA hD hn hm:=zlB x y b b' A D n m c d w hA hD (by omega) (by omega)
 mul x y b b' A D n m c d w _ hA hD hn hm:=zlD x y b b' A D n m c d w hA hD (by omega) (by omega)
theorem zpF (x mm:Nat)(A:oA9)(n c:Nat)(w:World)(hA:zak w x A n c)(hn:n<=274877906944)(hm0:0<mm)(hm1:mm<=32768):
  Calls Tryz.prog 174 #[.slice A n c,.int .i64 mm] w (zjo w x mm):=by
 obtain⟨i0,hi0,hz0,hz1,hz2⟩:=info_parts zij
 have HLN:=lh9 hA.len
 have hR:=hA.1
 clear hA
 obtain⟨Z,hZ⟩:∃Z,madeCells (Value.cells (.int .i64 0)) (n*i0.size)=Z:=⟨_,rfl⟩
 have HZ:Hid (Z.size=n):=by show _=_;rw [<-hZ,size_madeCells,hz1,Nat.mul_one]
 have hmk:∀W:World,(Instr.makeSlice 63 (.int .i64 (n:Int)) (.int .i64 (n:Int))).run Tryz.prog W=.ok (.slice (some ⟨W.heap.size,0,none⟩) n n) (W.alloc (.cells Z 3)):=λW=>by
  rw [<-hZ];exact zaT _ _ i0 _ Tryz.underlying63 hi0 hz0 _ _ n n (Nat.le_refl _) (by rw [hz2];omega) (by omega) W
 clear hZ
 go_enter Tryz.func174,Tryz.ntmps174
 go_wp2
 clear hmk
 go_loopg [7,8,9] (n + 1) (fun g s i _ wr => ∃ (k left : Nat) (cs : Array Value) (out : List Nat),k ≤ n ∧ k < g ∧ i = .int .i64 ((k : Int) - 1) ∧ s = .int .i64 left ∧ zeA x mm n k out left ∧
   Blk wr w.heap.size 3 cs/\cs.size=n/\cs.toList.drop k=zaw .i64 out/\Below w.heap.size w wr)
 case atStart=>exact⟨n,0,Z,[],Nat.le_refl _,by omega,rfl,rfl,zeA.start hm0 (by have:=HLN.out;omega),Blk.new w _ _,HZ.out,by rw [List.drop_of_length_le (by have:=HZ.out;simp;omega)];rfl,(Below.refl _ _).alloc (Nat.le_refl _) _⟩
 case round=>
  obtain⟨k,left,cs,out,hk,hg,rfl,rfl,hat,hB,hsz,hdr,hbl⟩:=hrel
  by_cases hk0:k=0
  ·subst hk0
   obtain⟨f1,f2⟩:=hat.done
   have hlen:out.length=n:=by have:=hat.len;omega
   have hrd:zau wr wr.heap.size 1 (some ⟨w.heap.size,0,none⟩) n (zaw .i64 out):=by
    refine⟨by rw [zaC];omega,λ_=>⟨_,rfl,hB.lt,λj u hu=>?_⟩⟩
    have e:(⟨w.heap.size,0,none⟩:Addr).add j=⟨w.heap.size,j,none⟩:=by unfold Addr.add;split<;>simp_all
    rw [e,hB.cell j,<-Array.getElem?_toList]
    rw [List.drop_zero] at hdr
    rw [hdr];exact hu
   have T:=zhb (some ⟨w.heap.size,0,none⟩) n n out wr hrd hat.dgs (Nat.le_refl _) (by omega) (by omega)
   rw [f1] at T
   have HT:=lh9 T
   have F2:=lh9 f2
   clear T hrd f1 f2 hat hdr hsz hlen
   go_wp2_with fail
   refine HT.out.mono ?_
   intro e w2 hg2
   have hg3:=hg2.from_ hbl
   obtain⟨A2,n2,c2,rfl,hh2,hb2⟩:=hg2.elim
   have HG3:=lh9 hg3
   clear hg2 hh2 hb2 hg3
   go_wp2_with fail
   go_ret2
   exact⟨_,by rw [<-F2.out];rfl,HG3.out⟩
  ·obtain⟨j,rfl⟩:∃j,k=j+1:=⟨k - 1,by omega⟩
   obtain⟨ad,rfl,hadb,hc0⟩:=zbr hR (k:=j) (by omega)
   have hc1:wr.cell? (ad.add j)=some (.int .i64 ((dg 65536 x).getD j 0:Nat)):=(hbl.cell (by rw [zap];exact hadb)).trans hc0
   rw [zfe] at hc1
   have ha1:x / 65536^j%65536<65536:=Nat.mod_lt _ (by decide)
   have hst:=hat.step hk rfl
   have hleft:=hat.rest
   obtain⟨a,ha⟩:∃b,x / 65536^j%65536=b:=⟨_,rfl⟩
   rw [ha] at hc1 ha1 hst
   have hfr:=hB.frozen j
   have hcell:∃u,wr.cell? ⟨w.heap.size,j,none⟩=some u:=by
    rw [hB.cell j]
    exact⟨cs[j]'(by omega),Array.getElem?_eq_getElem (by omega)⟩
   obtain⟨u,hu⟩:=hcell
   have HST:=lh9 hst
   have HS:=lh9 hsz
   have HD:=lh9 hdr
   clear hst ha hat hc0 hsz hdr
   go_wp2
   go_roundg (j+1)
   case measure=>omega
   case rel=>exact⟨j,(left*65536+a)%mm,cs.setIfInBounds j (.int .i64 (((left:Int)*65536+(a:Int)) / (mm:Int))),_,by omega,by omega,by go_num,by go_num,HST.out,hB.set_ _ _,by simpa using HS.out,by rw [drop_set _ _ _ (by have:=HS.out;omega),HD.out];simp [zaw],hbl.setCell (Nat.le_refl _) _⟩
def BackD (b x y:Nat)(D:List Nat):Prop:=D++dg b y=dg b x
theorem BackD.step {b x y:Nat}{D:List Nat}(h:BackD b x y D)(hb:2<=b)(hy:y≠0):BackD b x (y / b) (D++[y%b]):=by
 unfold BackD at h⊢
 rw [<-h,zea hb hy,List.append_assoc]
 rfl
section
variable {P:Program}{ops:Array Oper}{Q:Exit->Act->World->Prop}{S:World->Prop}{fuel:Nat}{l:Array Bool}{a:Act}{w:World}
theorem rcb (i j:Nat){o p:Oper}(hk:∀K':Act->World->Prop,Shut (∀(a:Act)(w:World),S w->(S w->wpAnyH P .any ops (NoPanic Q) S fuel (l.setIfInBounds i true) a w)->K' a w)->Oper.wp P o a w K' (NoPanic Q))(hj:∀K':Act->World->Prop,Shut (∀(a:Act)(w:World),S w->(S w->wpAnyH P .any ops (NoPanic Q) S fuel (l.setIfInBounds j true) a w)->K' a w)->Oper.wp P p a w K' (NoPanic Q))(h1:ops[i]?=some o:=by simp only [List.getElem?_toArray,List.getElem?_cons_succ,List.getElem?_cons_zero];rfl)(h1':ops[j]?=some p:=by simp only [List.getElem?_toArray,List.getElem?_cons_succ,List.getElem?_cons_zero];rfl)(h2:Region.ready .any ops l=[i,j]:=by kernel_rfl)(h3:Region.wanted o (yielded ops a.tmps)=true:=by rfl)(h3':Region.wanted p (yielded ops a.tmps)=true:=by rfl):wpAnyH P .any ops (NoPanic Q) S (fuel+1) l a w:=
 wpAnyH_ready h2 (by simp) (AllReadyH.cons h1 (λK' hK=>by rw [if_pos h3];exact hk K' hK) (AllReadyH.cons h1' (λK' hK=>by rw [if_pos h3'];exact hj K' hK) AllReadyH.nil))
end
