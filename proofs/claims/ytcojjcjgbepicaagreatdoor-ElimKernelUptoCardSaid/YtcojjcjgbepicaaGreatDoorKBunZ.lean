/- What this claim leans on. -/
import Derived.Test.YtcojjcjgbepicaaGreatDoorKUArgs2
import Derived.Deep.Slices
import Derived.Laws.Concat
namespace Go.Proofs.YtcojjcjgbepicaaGreatDoor
open Go Go.RowKit
open Go.ChangeShapes Go.WideShapes Go.ChangeAt
set_option maxHeartbeats 16000000
set_option linter.unusedVariables false
namespace UA
set_option maxHeartbeats 16000000
theorem one_le {H:Type}(d:DataW H):1<=Rows.uptoBulk d:=by
 cases d with
 |lit l=>cases l<;>simp [Rows.uptoBulk]
 |nil=>simp [Rows.uptoBulk]
 |ptr d=>simp [Rows.uptoBulk]
 |slice elems spare=>simp [Rows.uptoBulk]
 |agg parts=>simp [Rows.uptoBulk]
 |iface t d=>simp [Rows.uptoBulk]
 |map entries=>simp [Rows.uptoBulk]
 |held h=>simp [Rows.uptoBulk]
theorem zjC {H:Type}(l:List (DataW H)):l.length<=Rows.uptoBulkAll l:=by
 induction l with
 |nil=>simp [Rows.uptoBulkAll]
 |cons x r ih=>have:=one_le x;simp only [Rows.uptoBulkAll,List.length_cons];omega
theorem slice_le {H:Type}(elems spare:List (DataW H)):elems.length+spare.length+1<=Rows.uptoBulk (.slice elems spare):=by
 have h1:=zjC elems
 have h2:=zjC spare
 simp only [Rows.uptoBulk]
 omega
end UA
open Go Go.RowKit
open Go.ChangeShapes Go.WideShapes Go.ChangeAt Go.Deep
set_option maxHeartbeats 16000000
set_option linter.unusedVariables false
open Go Go.RowKit
open Go.ChangeShapes Go.WideShapes Go.ChangeAt Go.Deep
set_option maxHeartbeats 16000000
set_option linter.unusedVariables false
open Go Go.RowKit
set_option maxHeartbeats 16000000
set_option linter.unusedVariables false
def Cs (w:World):List (Addr×Value)->Prop
 |[]=>True
 |q::t=>w.cell? q.1=some q.2/\Cs w t
theorem csn {w:World}:Cs w []:=trivial
theorem csc {w:World}{p:Addr}{v:Value}{l:List (Addr×Value)}(h:w.cell? p=some v)(t:Cs w l):Cs w ((p,v)::l):=⟨h,t⟩
theorem Cs.below {w w':World}{l:List (Addr×Value)}(h:Cs w l)(hb:Below w.heap.size w w'):Cs w' l:=by
 induction l with
 |nil=>trivial
 |cons q t ih=>exact⟨zac hb h.1,ih h.2⟩
theorem Cs.drew {w:World}{l:List (Addr×Value)}(h:Cs w l):Cs w.drew l:=by
 induction l with
 |nil=>trivial
 |cons q t ih=>exact⟨h.1,ih h.2⟩
def OffL (g:Nat):List (Addr×Value)->Prop
 |[]=>True
 |q::t=>q.1.block≠g/\OffL g t
theorem Cs.far {w w':World}{g:Nat}{l:List (Addr×Value)}(h:Cs w l)(hf:zaY g w w')(hn:OffL g l):Cs w' l:=by
 induction l with
 |nil=>trivial
 |cons q t ih=>exact⟨(hf.2 q.1 hn.1).trans h.1,ih h.2 hn.2⟩
theorem cs2 {w:World}{g:Nat}{l:List (Addr×Value)}(x y:Value)(h:Cs w l)(hn:OffL g l:=by(simp only [OffL,and_true];try omega)):Cs ((w.setCell ⟨g,0,none⟩ x).setCell ⟨g,1,none⟩ y) l:=h.far (ziG w g x y) hn
theorem cs3 {w:World}{g:Nat}{l:List (Addr×Value)}(x y z:Value)(h:Cs w l)(hn:OffL g l:=by(simp only [OffL,and_true];try omega)):Cs (((w.setCell ⟨g,0,none⟩ x).setCell ⟨g,1,none⟩ y).setCell ⟨g,2,none⟩ z) l:=h.far (zdP w g x y z) hn
theorem sb9:(∀(a:Act) (d:Nat) (v:Value),a.put (some d) v={tmps:=a.tmps.setIfInBounds d v,defers:=a.defers})/\(∀(a:Act) (v:Value),a.put none v=a)/\(∀(l:List Value) (i:Nat) (v:Value),l.toArray.setIfInBounds i v=(l.set i v).toArray)/\(∀(x:Value) (l:List Value) (v:Value),(x::l).set 0 v=v::l)/\(∀(x:Value) (l:List Value) (i:Nat) (v:Value),(x::l).set (i+1) v=x::l.set i v):=
 ⟨λ_ _ _=>rfl,λ_ _=>rfl,λ_ _ _=>List.setIfInBounds_toArray ..,λ_ _ _=>rfl,λ_ _ _ _=>rfl⟩
section
variable {P:Program}{ops:Array Oper}{Q:Exit->Act->World->Prop}{S:World->Prop}{fuel:Nat}{l:Array Bool}{a:Act}{w:World}
theorem rg {id:Nat}{cl:List (Addr×Value)}(h0:Cs w cl)(h:Cs w.drew cl->wpAnyH P .any ops (NoPanic Q) (λw'=>Cs w' cl) ops.size (Array.replicate ops.size false) a w.drew)(hm:P.follows Departure.mixedOrders=true:=by kernel_rfl):Code.wp P (.region id ops true) Q a w:=
 wp_region_noPanic (wp_region_held_drew (S:=λw'=>Cs w' cl) hm h0.drew h)
theorem tk (i:Nat){o:Oper}{v:Value}{a':Act}(hn:wpAnyH P .any ops (NoPanic Q) S fuel (l.setIfInBounds i true) a' w)(h1:ops[i]?=some o:=by simp only [List.getElem?_toArray,List.getElem?_cons_succ,List.getElem?_cons_zero];rfl)(h2:Region.noSelect ops=true:=by kernel_rfl)(h3:Region.free .any ops l i=true:=by kernel_rfl)(h4:(Region.ready .any ops l).contains i=true:=by kernel_rfl)(h5:Region.wanted o (yielded ops a.tmps)=true:=by rfl)(h6:∀w,S w->Sem.run P (execOp a.eval o) w=Result.ok (Next.value v) w:=by((intro w hSw;(try dsimp only [Cs] at hSw);go_simp);(try with_reducible rfl)))(hS:S w:=by with_reducible assumption)(ha:a.put o.dst v=a':=by(simp only [sb9];try rfl)):wpAnyH P .any ops (NoPanic Q) S (fuel+1) l a w:=
 wpAnyH_take h1 h2 h3 h4 (λ_ _ _ h=>h) (Or.inl ⟨h5,h6⟩) hS (ha▸hn)
theorem rc (i:Nat){o:Oper}(hk:∀K':Act->World->Prop,Shut (∀(a:Act) (w:World),S w->(S w->wpAnyH P .any ops (NoPanic Q) S fuel (l.setIfInBounds i true) a w)->K' a w)->Oper.wp P o a w K' (NoPanic Q))(h1:ops[i]?=some o:=by simp only [List.getElem?_toArray,List.getElem?_cons_succ,List.getElem?_cons_zero];rfl)(h2:Region.ready .any ops l=[i]:=by kernel_rfl)(h3:Region.wanted o (yielded ops a.tmps)=true:=by rfl):wpAnyH P .any ops (NoPanic Q) S (fuel+1) l a w:=
 wpAnyH_ready h2 (by simp) (AllReadyH.cons h1 (λK' hK=>by rw [if_pos h3];exact hk K' hK) AllReadyH.nil)
theorem rdn (h:Q .normal a w)(hr:Region.ready .any ops l=[]:=by kernel_rfl):wpAnyH P .any ops (NoPanic Q) S fuel l a w:=wpAnyH_done hr (NoPanic.normal h) fuel
variable {ops0:Array Oper}{md:Region.Mode}{i:Nat}
theorem rdp (d k:Nat){o:Oper}{e:Edge}(hi:i ∈ Region.ready md ops l)(hO:ops=ops0)(ho:ops0[i]?=some o:=by simp only [List.getElem?_toArray,List.getElem?_cons_succ,List.getElem?_cons_zero];rfl)(he:o.after[k]?=some e:=by rfl)(hb:Region.binds md e=true:=by rfl)(hd:e.on=d:=by rfl):l.getD d false=true:=by
 subst hO;subst hd;exact zpt hi ho he hb
theorem als (i:Nat){o:Oper}(h:Region.ready md ops l=[])(hO:ops=ops0)(ho:ops0[i]?=some o:=by simp only [List.getElem?_toArray,List.getElem?_cons_succ,List.getElem?_cons_zero];rfl)(hr:(o.after.toList.all λe=> !Region.binds md e||l.getD e.on false)=true:=by rfl):l.getD i true=true:=by
 subst hO;exact zmt h ho hr
theorem gdl (i:Nat){L l:Array Bool}(h:L=l):l.getD i false=L.getD i false:=by rw [h]
theorem Gd.off {b:Bool}(h:Gd b (false=true)):b=false:=by
 cases b
 ·rfl
 ·exact absurd (h rfl) (by decide)
theorem wog {o:Oper}{K:Act->World->Prop}{Q:Exit->Act->World->Prop}(hO:ops=ops0)(h:∀K':Act->World->Prop,Shut (∀a w,K a w->K' a w)->Oper.wp P o a w K' Q)(ho:ops0[i]?=some o:=by simp only [List.getElem?_toArray,List.getElem?_cons_succ,List.getElem?_cons_zero];rfl)(hg:o.guard=none:=by rfl):wpOp P ops Q i K a w:=by
 subst hO;exact wpOp_go ho hg h
theorem kq0 {f:Bool}{a:Act}{x i:Nat}{u v:Value}(h:Gd f (a.tmps.getD x undef=u))(hn:x≠i:=by decide):Gd f ((a.put (some i) v).tmps.getD x undef=u):=h.mono λh=>(rd_ne hn _).trans h
theorem kq {f:Bool}{a:Act}{x i:Nat}{u v:Value}{p q:Prop}(h:Gd f (a.tmps.getD x undef=u/\p))(g:p->q)(hn:x≠i:=by decide):Gd f ((a.put (some i) v).tmps.getD x undef=u/\q):=h.mono λh=>⟨(rd_ne hn _).trans h.1,g h.2⟩
end
theorem Blk.c1 {w:World}{g:Nat}{t:TypeId}{x:Value}(h:Blk w g t #[x]):w.cell? ⟨g,0,none⟩=some x:=h.cell 0
theorem Blk.c2 {w:World}{g:Nat}{t:TypeId}{x y:Value}(h:Blk w g t #[x,y]):w.cell? ⟨g,0,none⟩=some x/\w.cell? ⟨g,1,none⟩=some y:=⟨h.cell 0,h.cell 1⟩
theorem Blk.c3 {w:World}{g:Nat}{t:TypeId}{x y z:Value}(h:Blk w g t #[x,y,z]):w.cell? ⟨g,0,none⟩=some x/\w.cell? ⟨g,1,none⟩=some y/\w.cell? ⟨g,2,none⟩=some z:=⟨h.cell 0,h.cell 1,h.cell 2⟩
theorem st1 {w:World}{g:Nat}{t:TypeId}{a:Value}(h:Blk w g t #[a]):w.cell? ⟨g,0,none⟩=some a/\w.frozen? ⟨g,0,none⟩=false:=⟨h.cell 0,h.frozen 0⟩
theorem st2 {w:World}{g:Nat}{t:TypeId}{a b:Value}(h:Blk w g t #[a,b])(x:Value):w.cell? ⟨g,0,none⟩=some a/\w.frozen? ⟨g,0,none⟩=false/\(w.setCell ⟨g,0,none⟩ x).cell? ⟨g,1,none⟩=some b/\(w.setCell ⟨g,0,none⟩ x).frozen? ⟨g,1,none⟩=false:=⟨h.cell 0,h.frozen 0,(h.set_ 0 x).cell 1,(h.set_ 0 x).frozen 1⟩
theorem st3 {w:World}{g:Nat}{t:TypeId}{a b c:Value}(h:Blk w g t #[a,b,c])(x y:Value):w.cell? ⟨g,0,none⟩=some a/\w.frozen? ⟨g,0,none⟩=false/\(w.setCell ⟨g,0,none⟩ x).cell? ⟨g,1,none⟩=some b/\(w.setCell ⟨g,0,none⟩ x).frozen? ⟨g,1,none⟩=false/\((w.setCell ⟨g,0,none⟩ x).setCell ⟨g,1,none⟩ y).cell? ⟨g,2,none⟩=some c/\((w.setCell ⟨g,0,none⟩ x).setCell ⟨g,1,none⟩ y).frozen? ⟨g,2,none⟩=false:=
 ⟨h.cell 0,h.frozen 0,(h.set_ 0 x).cell 1,(h.set_ 0 x).frozen 1,((h.set_ 0 x).set_ 1 y).cell 2,((h.set_ 0 x).set_ 1 y).frozen 2⟩
theorem sn1 {w:World}{g:Nat}{t:TypeId}{a:Value}(h:Blk w g t #[a])(x:Value):Blk (w.setCell ⟨g,0,none⟩ x) g t #[x]:=h.set_ 0 x
theorem sn2 {w:World}{g:Nat}{t:TypeId}{a b:Value}(h:Blk w g t #[a,b])(x y:Value):Blk ((w.setCell ⟨g,0,none⟩ x).setCell ⟨g,1,none⟩ y) g t #[x,y]:=(h.set_ 0 x).set_ 1 y
theorem sn3 {w:World}{g:Nat}{t:TypeId}{a b c:Value}(h:Blk w g t #[a,b,c])(x y z:Value):Blk (((w.setCell ⟨g,0,none⟩ x).setCell ⟨g,1,none⟩ y).setCell ⟨g,2,none⟩ z) g t #[x,y,z]:=((h.set_ 0 x).set_ 1 y).set_ 2 z
theorem bl1 {w W:World}{g:Nat}(x:Value)(hg:w.heap.size<=g)(h:Below w.heap.size w W):Below w.heap.size w (W.setCell ⟨g,0,none⟩ x):=zae x hg h
theorem bl2 {w W:World}{g:Nat}(x y:Value)(hg:w.heap.size<=g)(h:Below w.heap.size w W):Below w.heap.size w ((W.setCell ⟨g,0,none⟩ x).setCell ⟨g,1,none⟩ y):=zae y hg (zae x hg h)
theorem bl3 {w W:World}{g:Nat}(x y z:Value)(hg:w.heap.size<=g)(h:Below w.heap.size w W):Below w.heap.size w (((W.setCell ⟨g,0,none⟩ x).setCell ⟨g,1,none⟩ y).setCell ⟨g,2,none⟩ z):=zae z hg (bl2 x y hg h)
theorem gn1 {w W:World}{x g:Nat}{t:TypeId}{A:oA9}{n c:Nat}{q:oA9}{r s:Nat}(h:zad W x A n c)(k:Blk W g t #[.slice q r s])(hB:Below w.heap.size w W)(hg:w.heap.size<=g):zew w x (.returned (.agg #[.slice A n c])) (W.setCell ⟨g,0,none⟩ (.slice A n c)):=
 ⟨_,_,_,rfl,zat h k (NoU.s1 _ _ _) (zbS _ _ _),bl1 _ hg hB⟩
theorem gi2 {w W:World}{z:Int}{g:Nat}{t:TypeId}{b:Bool}{A:oA9}{n c:Nat}{p:Bool}{q:oA9}{r s:Nat}(h:zaA W z b A n c)(k:Blk W g t #[.bool p,.slice q r s])(hB:Below w.heap.size w W)(hg:w.heap.size<=g):zaT w z (.returned (.agg #[.bool b,.slice A n c])) ((W.setCell ⟨g,0,none⟩ (.bool b)).setCell ⟨g,1,none⟩ (.slice A n c)):=
 ⟨_,_,_,_,rfl,zgC h k (NoU.s2 _ _ _ _) (ziG _ _ _ _),bl2 _ _ hg hB⟩
theorem gq3 {w W:World}{r:Rat}{g:Nat}{t:TypeId}{b:Bool}{A E:oA9}{n c k f:Nat}{p:Bool}{q q2:oA9}{r1 s r2 s2:Nat}(h:zah W r b A n c E k f)(kd:Blk W g t #[.bool p,.slice q r1 s,.slice q2 r2 s2])(hB:Below w.heap.size w W)(hg:w.heap.size<=g):zaJ w r (.returned (.agg #[.bool b,.slice A n c,.slice E k f])) (((W.setCell ⟨g,0,none⟩ (.bool b)).setCell ⟨g,1,none⟩ (.slice A n c)).setCell ⟨g,2,none⟩ (.slice E k f)):=
 ⟨_,_,_,_,_,_,_,rfl,zbu h kd (NoU.s3 _ _ _ _ _ _ _) (zdP _ _ _ _ _),bl3 _ _ _ hg hB⟩
theorem gb3 {w W:World}{r:Rat}(u:Bool){g:Nat}{t:TypeId}{b:Bool}{A E:oA9}{n c k f:Nat}{p:Bool}{q q2:oA9}{r1 s r2 s2:Nat}(h:zah W r b A n c E k f)(kd:Blk W g t #[.bool p,.slice q r1 s,.slice q2 r2 s2])(hB:Below w.heap.size w W)(hg:w.heap.size<=g):zbo w r u (.returned (.tuple #[.agg #[.bool b,.slice A n c,.slice E k f],.bool u])) (((W.setCell ⟨g,0,none⟩ (.bool b)).setCell ⟨g,1,none⟩ (.slice A n c)).setCell ⟨g,2,none⟩ (.slice E k f)):=
 ⟨_,_,_,_,_,_,_,rfl,zbu h kd (NoU.s3 _ _ _ _ _ _ _) (zdP _ _ _ _ _),bl3 _ _ _ hg hB⟩
section
variable {P:Program}{ops:Array Oper}{Q:Exit->Act->World->Prop}{S:World->Prop}{fuel:Nat}{l:Array Bool}{a:Act}{w:World}
theorem rgB {id:Nat}(h:Below w.heap.size w w.drew->wpAnyH P .any ops (NoPanic Q) (λw'=>Below w.heap.size w w') ops.size (Array.replicate ops.size false) a w.drew)(hm:P.follows Departure.mixedOrders=true:=by kernel_rfl):Code.wp P (.region id ops true) Q a w:=
 wp_region_noPanic (wp_region_held_drew (S:=λw'=>Below w.heap.size w w') hm (Below.refl _ w).drew h)
theorem tl (i:Nat){cl:List (Addr×Value)}(hc:∀w,S w->Cs w cl){o:Oper}{v:Value}{a':Act}(hn:wpAnyH P .any ops (NoPanic Q) S fuel (l.setIfInBounds i true) a' w)(h1:ops[i]?=some o:=by simp only [List.getElem?_toArray,List.getElem?_cons_succ,List.getElem?_cons_zero];rfl)(h2:Region.noSelect ops=true:=by kernel_rfl)(h3:Region.free .any ops l i=true:=by kernel_rfl)(h4:(Region.ready .any ops l).contains i=true:=by kernel_rfl)(h5:Region.wanted o (yielded ops a.tmps)=true:=by rfl)(h6:∀w,Cs w cl->Sem.run P (execOp a.eval o) w=Result.ok (Next.value v) w:=by((intro w hSw;(try dsimp only [Cs] at hSw);go_simp);(try with_reducible rfl)))(hS:S w:=by with_reducible assumption)(ha:a.put o.dst v=a':=by(simp only [sb9];try rfl)):wpAnyH P .any ops (NoPanic Q) S (fuel+1) l a w:=
 wpAnyH_take h1 h2 h3 h4 (λ_ _ _ h=>h) (Or.inl ⟨h5,λw hs=>h6 w (hc w hs)⟩) hS (ha▸hn)
end
theorem szw {K B x n c:Nat}{A:oA9}{w:World}(h:Hid (Sz K x))(k:zad w x A n c)(e:K<=B:=by omega):n<=B:=Nat.le_trans (h.out.words k) e
theorem szi {K B n c:Nat}{z:Int}{b:Bool}{A:oA9}{w:World}(h:Hid (Sz K z.natAbs))(k:zaA w z b A n c)(e:K<=B:=by omega):n<=B:=Nat.le_trans (h.out.words k.words) e
theorem szq {K n k c f:Nat}{r:Rat}{b:Bool}{A E:oA9}{w:World}(h:Hid (SzQ K r))(q:zah w r b A n c E k f)(e:K<=67108864:=by omega):zaM n k:=SzQ.fit h.out q e
open Go Go.RowKit
set_option maxHeartbeats 16000000
set_option maxRecDepth 100000
set_option linter.unusedVariables false
set_option linter.unusedSimpArgs false
theorem zjb (f:Rat->Rat->Rat)(F:FuncId)(cap:Array Value)(xs ys:List Rat)(A B:oA9)(n c d:Nat)(w:World)(ha:zaC w A n c xs)(hb:zaC w B n d ys)(hn:n<=1073741824)
  (hEn:∀(args:Array Value) (w':World),Sem.run Tryz.prog (callFunc F args) w'=.ok (.enter F args) w')
  (hF : ∀ i,i < n → ∀ w',Below w.heap.size w w' → ∀ (b b' : Bool) (A A' : oA9) (n n' c c' : Nat) (E E' : oA9) (k k' f9 f9' : Nat),zah w' (xs.getD i 0) b A n c E k f9 → zah w' (ys.getD i 0) b' A' n' c' E' k' f9' →
    Calls Tryz.prog F (#[.agg #[.bool b,.slice A n c,.slice E k f9],.agg #[.bool b',.slice A' n' c',.slice E' k' f9']]++cap) w' (zaJ w' (f (xs.getD i 0) (ys.getD i 0)))):
  Calls Tryz.prog 102 #[.slice A n c,.slice B n d,.func (.func F) #[] cap] w (zcT w n (List.zipWith f xs ys)):=by
 have hla:=ha.len
 have hlb:=hb.len
 have hlz:(List.zipWith f xs ys).length=n:=zoq hla hlb
 unfold zcT
 have HGI:∀i,i<n->(List.zipWith f xs ys)[i]?=some (f (xs.getD i 0) (ys.getD i 0)):=λi hi=>by
  rw [List.getElem?_zipWith,List.getD_eq_getElem?_getD,List.getD_eq_getElem?_getD,List.getElem?_eq_getElem (by omega),List.getElem?_eq_getElem (by omega)];rfl
 obtain⟨zs,hzs⟩:∃zs,List.zipWith f xs ys=zs:=⟨_,rfl⟩
 rw [hzs] at HGI hlz⊢
 have HG:=lh9 HGI
 have HLZ:=lh9 hlz
 have HF:=lh9 hF
 have HA:=lh9 ha
 have HB9:=lh9 hb
 obtain⟨Z,hZ⟩:=zdI n (by omega)
 have hmk:=λW=>(hZ W).1
 have HOWN:=lh9 (λW=>(hZ W).2)
 clear hF ha hb hla hlb hlz hzs HGI hZ
 have hd0:((n:Int) !=(n:Int))=false:=by simp
 have i0:(0:Int)<=(n:Int):=by omega
 go_enter Tryz.func102,Tryz.ntmps102
 go_wp2_with fail
 clear hmk
 have hrow:=HOWN.out w
 have hB:Below w.heap.size w (w.alloc (.cells Z 53)):=(Below.refl _ w).alloc (Nat.le_refl _) _
 obtain⟨gp,hgp⟩:∃g,w.heap.size=g:=⟨_,rfl⟩
 have hwg:w.heap.size<=gp:=by omega
 have hz:gp+1<=(w.alloc (.cells Z 53)).heap.size:=by simp [hgp]
 rw [hgp] at hrow⊢
 rw [<-zbE 0 zs n] at hrow
 generalize w.alloc (.cells Z 53)=W1 at*
 clear hgp HOWN
 go_loopg [21] (n+1) (λg ix wr=>∃(k:Nat),k<=n/\n<g+k/\ix=.int .i64 k/\zbL wr gp n (zco 0 zs n k)/\Below w.heap.size w wr)
 case atStart=>exact⟨0,Nat.zero_le _,by omega,rfl,hrow,hB⟩
 case round=>
  clear hrow hB hz
  obtain⟨k,hkn,hg,rfl,hrow,hB⟩:=hrel
  by_cases hlt:k<n
  ·obtain⟨ad,b1,B1,m1,d1,E1,u1,v1,rfl,-,hc0,hc1,hc2,hx⟩:=HA.out.get hB hlt
   obtain⟨ae,b2,B2,m2,d2,E2,u2,v2,rfl,hae,he0,he1,he2,hy⟩:=HB9.out.get hB hlt
   have hd1:decide ((k:Int)<(n:Int))=true:=by simp;omega
   have i1:(0:Int)<=(k:Int):=by omega
   have i2:(k:Int)<(n:Int):=by omega
   have hgr:=hrow.lt
   obtain⟨st,d3,d4⟩:=zax wr 53 #[.bool b1,.slice B1 m1 d1,.slice E1 u1 v1]
   have HBX:=lh9 d3
   have HX:=lh9 (hx.below st)
   have HY:=lh9 (hy.below st)
   have HROW:=lh9 (hrow.keep st)
   have HB1:=lh9 (zaa hB st)
   have HE:=lh9 (And.intro (zac st he0) (And.intro (zac st he1) (zac st he2)))
   clear hx hy hrow hB st d3 d4 he0 he1 he2
   go_wp2_with fail
   clear hc0 hc1 hc2
   generalize wr.alloc (.cells #[.bool b1,.slice B1 m1 d1,.slice E1 u1 v1] 53)=W2 at*
   generalize wr.heap.size=gb at*
   obtain⟨p0,p1,p2⟩:=HBX.out.c3
   obtain⟨e0,e1,e2⟩:=HE.out
   have hBw:=(Below.refl W2.heap.size W2).drew
   have hne:=zhS (k:=k*3) (show ae.block≠gp by omega)
   refine rg (csc p0 (csc p1 (csc p2 (csc e0 (csc e1 (csc e2 csn)))))) (λhHeld=>?_)
   refine tk 0 ?_
   refine tk 1 ?_
   refine tk 2 ?_
   refine tk 3 ?_
   refine tk 4 ?_
   refine tk 5 ?_
   refine tk 6 ?_
   refine tk 7 ?_
   refine rc 8 (λK hK=>?_)
   go_simp
   refine(HF.out k hlt _ (zaa HB1.out hBw) _ _ _ _ _ _ _ _ _ _ _ _ _ _ (HX.out.below hBw) (HY.out.below hBw)).mono ?_
   rintro e w3 ⟨b3,A3,n3,c3,E3,k3,f3,rfl,hw3,hb⟩
   have hBw:=zaa hBw hb
   refine hK.out _ _ (Cs.below hHeld hb) (λhHeld=>?_);clear hK K hb
   refine tk 9 ?_
   have hr3:=HROW.out.keep hBw
   obtain⟨q0,q1,q2,sc0,sf0,sc1,sf1,sc2,sf2⟩:=hr3.ready hlt (.bool b3) (.slice A3 n3 c3)
   refine rc 10 (λK hK=>?_)
   go_simp
   have hr4:=zbf.set_ zaf hr3 hlt hw3
   rw [zbV 0 zs n k HLZ.out hlt _ (HG.out k hlt)] at hr4
   have hB4:=zbB (k*3) (k*3+1) (k*3+2) (.bool b3) (.slice A3 n3 c3) (.slice E3 k3 f3) hwg (zaa HB1.out hBw)
   refine hK.out _ _ (Cs.far hHeld (offg3 _ _ _ _ _ _ _ _) (by refine⟨?_,?_,?_,hne,hne,hne,trivial⟩<;>(show gb≠gp;omega))) (λhHeld=>?_);clear hK K
   refine rdn ?_
   have HR4:=lh9 hr4
   have HB4:=lh9 hB4
   clear hr4 hB4 hr3 hHeld hBw hw3 sc0 sf0 sc1 sf1 sc2 sf2 p0 p1 p2 e0 e1 e2 HBX HX HY HROW HB1 HE
   go_wp2
   go_roundg (n - k)
   case measure=>omega
   case rel=>exact⟨k+1,by omega,by omega,by go_num,HR4.out,HB4.out⟩
  ·have hk:k=n:=by omega
   subst hk
   have hd1:decide ((k:Int)<(k:Int))=false:=by simp
   have HR:=lh9 (zbU 0 zs k HLZ.out▸hrow)
   have HB1:=lh9 hB
   clear hrow hB
   go_wp2
   go_ret2
   exact⟨gp,rfl,hwg,HR.out,HB1.out⟩
open Go Go.RowKit
set_option maxHeartbeats 16000000
set_option linter.unusedVariables false
def zcS (w:World)(x:Nat)(e:Ending)(w':World):Prop:=∃(A:oA9) (n c:Nat),e=.returned (.agg #[.slice A n c])/\zad w' x A n c/\Below w.heap.size w w'
def zkb (w:World)(x y:Nat)(e:Ending)(w':World):Prop:=∃(A:oA9) (n c:Nat) (B:oA9) (m d:Nat),e=.returned (.tuple #[.agg #[.slice A n c],.agg #[.slice B m d]])/\zad w' x A n c/\zad w' y B m d/\Below w.heap.size w w'
theorem Sz.gcd {K K' x y:Nat}(h:Sz K x)(h':Sz K' y):Sz (K+K') (Nat.gcd x y):=by
 rcases Nat.eq_zero_or_pos x with e|e
 ·rw [e,Nat.gcd_zero_left];exact h'.up (by omega)
 ·exact(h.of_le (Nat.gcd_le_left y e)).up (by omega)
structure GcdC:Prop where
 of:∀(x y:Nat) (A D:oA9) (n m c d:Nat) (w:World),zad w x A n c->zad w y D m d->n<=1073741824->m<=1073741824->zai w->Calls Tryz.prog 170 #[.agg #[.slice A n c],.agg #[.slice D m d]] w (zcS w (Nat.gcd x y))
 reduce:∀(x y:Nat) (A D:oA9) (n m c d:Nat) (w:World),zad w x A n c->zad w y D m d->n<=1073741824->m<=1073741824->zai w->Calls Tryz.prog 122 #[.agg #[.slice A n c],.agg #[.slice D m d]] w (zkb w (x / Nat.gcd x y) (y / Nat.gcd x y))
open Go Go.RowKit
set_option maxHeartbeats 16000000
set_option linter.unusedVariables false
theorem zcg {P:Program}{f:FuncId}{args:Array Value}{w:World}{z v:Int}(e:z=v)(h:Calls P f args w (zcf w z)):Calls P f args w λe w'=>e=.returned (.int .i64 v)/\Below w.heap.size w w':=by
 subst e;exact h
theorem zau {P:Program}{f:FuncId}{args:Array Value}{w:World}{b t:Bool}(e:b=t)(h:Calls P f args w λe w'=>e=.returned (.bool b)/\Below w.heap.size w w'):Calls P f args w λe w'=>e=.returned (.bool t)/\Below w.heap.size w w':=by
 subst e;exact h
theorem inew_pos {T:World->Prop}(IC:IntC T)(x:Nat)(A:oA9)(n c:Nat)(w:World)(hT:T w)(h:zad w x A n c)(hn:n<=268435456):Calls Tryz.prog 161 #[.bool false,.agg #[.slice A n c]] w (zaT w (x:Int)):=
 IC.new false x A n c w hT h hn
open Go Go.RowKit
set_option maxHeartbeats 16000000
set_option maxRecDepth 100000
set_option linter.unusedVariables false
set_option linter.unusedSimpArgs false
open Go Go.RowKit
set_option maxHeartbeats 16000000
set_option maxRecDepth 100000
set_option linter.unusedVariables false
set_option linter.unusedSimpArgs false
open Go Go.RowKit
set_option maxHeartbeats 16000000
set_option linter.unusedVariables false
theorem zbH {T:World->Prop}:IntC T where
 new s x A n c w _ hA hn:=zlw s x A n c w hA (by omega)
 of z w _ h1 h2:=zmS z w h1 h2
 belowI z b A n c w _ hA hn:=zjk z b A n c w hA
 abs z b A n c w _ hA hn:=(zls z b A n c w hA (by omega)).mono λ_ _ ⟨A',n',c',he,hw,hb,_⟩=>⟨A',n',c',he,hw,hb⟩
 sign z b A n c w _ hA hn:=zkr z b A n c w hA
 cmp x y b b' A D n m c d w _ hA hD hn hm:=zlu x y b b' A D n m c d w hA hD (by omega) (by omega)
 add x y b b' A D n m c d w _ hA hD hn hm:=zlt x y b b' A D n m c d w hA hD (by omega) (by omega)
 mul x y b b' A D n m c d w _ hA hD hn hm:=zlv x y b b' A D n m c d w hA hD (by omega) (by omega)
open Go Go.RowKit
set_option maxHeartbeats 16000000
set_option maxRecDepth 100000
set_option linter.unusedVariables false
set_option linter.unusedSimpArgs false
def RefQ (w:World)(r:Rat)(b:Bool)(A:oA9)(n c:Nat)(E:oA9)(k f:Nat):Prop:=RefIn w r.num b A n c/\zdj w r.den E k f
theorem RefQ.below {w w':World}{r:Rat}{b:Bool}{A:oA9}{n c:Nat}{E:oA9}{k f:Nat}(h:RefQ w r b A n c E k f)(hb:Below w.heap.size w w'):RefQ w' r b A n c E k f:=⟨h.1.below hb,h.2.below hb⟩
