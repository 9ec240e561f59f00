/- What this claim leans on. -/
import Derived.Test.YtcojjcjgbepicaaGreatDoorHBunZ
namespace Go.Proofs.YtcojjcjgbepicaaGreatDoor
open Go Go.RowKit Go.Proofs.Tryz
open Go.ChangeShapes Go.WideShapes Go.ChangeAt Go.Deep
set_option maxHeartbeats 16000000
set_option linter.unusedVariables false
def zbm (z:Int):Prop:=-9223372036854775808<=z/\z<=9223372036854775807
theorem ziO {H:Type}{b:TypeId×Value->H}{P:Program}{W:World}{a:Nat}{t:TypeId}{f0 f1:Field}{c0 c1:Value}{x:DataW H×List MemPlace}
  (hs:P.underlying t=some (.struct #[f0,f1])) (hf:(f0.offset,P.cellsOf f0.type,f1.offset,P.cellsOf f1.type)=(0,1,1,1)) (h0:P.underlying f0.type=some (.int .i64)) (h1:P.underlying f1.type=some (.int .i64))
  (h:DataW.trod b P W 0 (λ_=>true) true a t [c0,c1]=some x):∃p q:Int,c0=.int .i64 p/\c1=.int .i64 q/\zbm p/\zbm q:=by
 simp only [Prod.mk.injEq] at hf;obtain⟨y0,y1,n,rfl,_,k0,k1⟩:=trod_struct2 hs h;rw [hf.1,hf.2.1] at k0;rw [hf.2.2.1,hf.2.2.2] at k1;simp only [List.drop_zero,List.take_succ_cons,List.take_zero,List.drop_succ_cons] at k0 k1;obtain⟨p,hp,_,wp⟩:=DataW.trod_int h0 k0;obtain⟨q,hq,_,wq⟩:=DataW.trod_int h1 k1;simp only [List.cons.injEq,and_true] at hp hq;have bp:=bounds_i64 wp;have bq:=bounds_i64 wq;exact⟨p,q,hp,hq,⟨om9,om9⟩,⟨om9,om9⟩⟩
theorem arg_frac {H:Type}{a:TypeId×Value->H}{P:Program}{W:World}{r:Reach}{b0:Nat}{t:TypeId}{f0 f1:Field}{v:Value}{d:DataW H}{p:List MemPlace}
  (hs:P.underlying t=some (.struct #[f0,f1])) (hf:(f0.offset,P.cellsOf f0.type,f1.offset,P.cellsOf f1.type)=(0,1,1,1)) (hC:P.cellsOf t=2) (h0:P.underlying f0.type=some (.int .i64)) (h1:P.underlying f1.type=some (.int .i64))
  (hv:Value.okWide P W r b0 t v) (h:DataW.Trod a P W 0 (λ_=>true) true t v d p):∃x y:Int,v=.agg #[.int .i64 x,.int .i64 y]/\zbm x/\zbm y:=by
 obtain⟨cs,rfl,hsz⟩:=okWide_struct hs hv;obtain⟨c0,c1,rfl⟩:=Go.Joins.array2 (hsz.trans hC);obtain⟨fuel,hh⟩:=h;obtain⟨x,y,rfl,rfl,hx,hy⟩:=ziO (x:=(d,p)) hs hf h0 h1 (by simpa [Value.cells] using hh);exact⟨x,y,rfl,hx,hy⟩
structure zaX (W:World)(A:oA9)(n c:Nat)(L:List (Int×Int)):Prop where
 len:L.length=n
 fits:n<=c
 small:c<=1048576
 ints:∀q ∈ L,zbm q.1/\zbm q.2
 row:∀r q,L[r]?=some q->∃ad,A=some ad/\ad.block<W.heap.size/\W.cell? (ad.add (r*2))=some (.int .i64 q.1)/\W.cell? (ad.add (r*2+1))=some (.int .i64 q.2)
theorem zaX.below {W W':World}{A:oA9}{n c:Nat}{L:List (Int×Int)}(h:zaX W A n c L)(hb:Below W.heap.size W W'):zaX W' A n c L:=
 ⟨h.len,h.fits,h.small,h.ints,λr q hr=>by
  obtain⟨ad,e,h1,h2,h3⟩:=h.row r q hr;exact⟨ad,e,Nat.lt_of_lt_of_le h1 hb.size,(hb.cell (by rw [zan];exact h1)).trans h2,(hb.cell (by rw [zan];exact h1)).trans h3⟩⟩
theorem arg_fracs {H:Type}{u:TypeId×Value->H}{P:Program}{W:World}{d:Nat}{t0 t:TypeId}{f0 f1:Field}{A:oA9}{n c:Nat}{x:DataW H×List MemPlace}
  (ht:P.underlying t0=some (.slice t)) (hs:P.underlying t=some (.struct #[f0,f1])) (hf:(f0.offset,P.cellsOf f0.type,f1.offset,P.cellsOf f1.type)=(0,1,1,1)) (hC:P.cellsOf t=2) (h0:P.underlying f0.type=some (.int .i64)) (h1:P.underlying f1.type=some (.int .i64))
  (h:DataW.trod u P W 0 (λ_=>true) true d t0 (Value.slice A n c).cells.toList=some x) (hb:Rows.uptoBulk x.1<=1048576):∃L,zaX W A n c L:=by
 rcases open_slice ht h with⟨hcs,_⟩|⟨a,len,cap,m,k,D,Pl,hcs,_,hl,hm,hmm,hx,hi⟩
 ·simp [Value.cells] at hcs;obtain⟨rfl,rfl,rfl⟩:=hcs;exact⟨[],rfl,Nat.le_refl _,om9,λq hq=>(by cases hq),λr q hr=>by simp at hr⟩
 ·simp [Value.cells] at hcs;obtain⟨rfl,rfl,rfl⟩:=hcs;rw [if_pos rfl] at hmm;rw [hmm] at hx hi;subst hx;have y:=UA.slice_le (H:=H) ((List.range n).map D) ((List.range (c - n)).map λj=>D (n+j));have hb':Rows.uptoBulk (DataW.slice (H:=H) ((List.range n).map D) ((List.range (c - n)).map λj=>D (n+j)))<=1048576:=hb;have v:c<=1048576:=by
   simp only [List.length_map,List.length_range] at y;omega
  have b:∀r,r<n->∃q:Int×Int,W.cell? (a.add (r*2))=some (.int .i64 q.1)/\W.cell? (a.add (r*2+1))=some (.int .i64 q.2)/\zbm q.1/\zbm q.2:=λr hr=>by
   obtain⟨cs,i,z⟩:=hi r om9;rw [hC] at i;obtain⟨_,o,g⟩:=World.cells?_some i;obtain⟨c0,c1,rfl⟩:∃c0 c1,cs=[c0,c1]:=by
    match cs,o with
    |[c0,c1],_=>exact⟨c0,c1,rfl⟩
   obtain⟨p,q,rfl,rfl,hp,hq⟩:=ziO (x:=(D r,Pl r)) hs hf h0 h1 z;have h0:=g 0 de9;have h1:=g 1 de9;rw [Go.Deep.add_add] at h0 h1;exact⟨(p,q),h0,h1,hp,hq⟩
  obtain ⟨f,l⟩ : ∃ f : Nat → Int × Int,∀ r,r < n → W.cell? (a.add (r * 2)) = some (.int .i64 (f r).1) ∧ W.cell? (a.add (r * 2 + 1)) = some (.int .i64 (f r).2) ∧ zbm (f r).1 ∧ zbm (f r).2 :=
   ⟨λr=>if hr:r<n then(b r hr).choose else(0,0),λr hr=>by simp only [dif_pos hr];exact(b r hr).choose_spec⟩
  refine⟨(List.range n).map f,si9,hl,v,λq hq=>?_,λr q hr=>?_⟩
  ·obtain⟨r,hr,rfl⟩:=List.mem_map.1 hq;exact(l r (List.mem_range.1 hr)).2.2
  ·have s:r<n:=by
    have:=(List.getElem?_eq_some_iff.1 hr).1;simpa using this
   obtain rfl:f r=q:=by
    rw [List.getElem?_map,List.getElem?_range s] at hr;simpa using hr
   obtain⟨c0,c1,_⟩:=l r s;refine⟨a,rfl,?_,c0,c1⟩;have:=World.block_lt_of_cell? W _ c0;rw [zan] at this;exact this
theorem ziD {H:Type}{d:TypeId×Value->H}{P:Program}{W:World}{b:Nat}{t0 t:TypeId}{f0 f1:Field}{v:Value}{x:DataW H×List MemPlace}
  (ht:P.underlying t0=some (.slice t)) (hs:P.underlying t=some (.struct #[f0,f1])) (hf:(f0.offset,P.cellsOf f0.type,f1.offset,P.cellsOf f1.type)=(0,1,1,1)) (hC:P.cellsOf t=2) (h0:P.underlying f0.type=some (.int .i64)) (h1:P.underlying f1.type=some (.int .i64))
  (h:DataW.trod d P W 0 (λ_=>true) true b t0 [v]=some x) (hb:Rows.uptoBulk x.1<=1048576):∃A n c L,v=.slice A n c/\zaX W A n c L:=by
 have go:∀A n c,[v]=[Value.slice A n c]->∃A n c L,v=.slice A n c/\zaX W A n c L:=λA n c e=>by
  simp only [List.cons.injEq,and_true] at e;subst e;obtain⟨L,hL⟩:=arg_fracs ht hs hf hC h0 h1 (A:=A) (n:=n) (c:=c) (by simpa [Value.cells] using h) hb;exact⟨A,n,c,L,rfl,hL⟩
 rcases open_slice ht h with⟨hcs,_⟩|⟨a,len,cap,m,k,D,Pl,hcs,_⟩
 ·exact go _ _ _ hcs
 ·exact go _ _ _ hcs
structure zbj (W:World)(A:oA9)(n c:Nat)(R:Nat->oA9×Nat×Nat×List (Int×Int)):Prop where
 fits:n<=c
 small:c<=1048576
 row:∀r,r<n->∃ad,A=some ad/\ad.block<W.heap.size/\W.cell? (ad.add r)=some (.slice (R r).1 (R r).2.1 (R r).2.2.1)/\zaX W (R r).1 (R r).2.1 (R r).2.2.1 (R r).2.2.2
theorem zjL {H:Type}{i:TypeId×Value->H}{P:Program}{W:World}{d:Nat}{t9 t0 t:TypeId}{f0 f1:Field}{A:oA9}{n c:Nat}{x:DataW H×List MemPlace}
  (y:P.underlying t9=some (.slice t0)) (l:P.cellsOf t0=1) (ht:P.underlying t0=some (.slice t)) (hs:P.underlying t=some (.struct #[f0,f1])) (hf:(f0.offset,P.cellsOf f0.type,f1.offset,P.cellsOf f1.type)=(0,1,1,1)) (hC:P.cellsOf t=2) (h0:P.underlying f0.type=some (.int .i64)) (h1:P.underlying f1.type=some (.int .i64))
  (h:DataW.trod i P W 0 (λ_=>true) true d t9 (Value.slice A n c).cells.toList=some x) (hb:Rows.uptoBulk x.1<=1048576):∃R,zbj W A n c R:=by
 rcases open_slice y h with⟨hcs,_⟩|⟨a,len,cap,m,k,D,Pl,hcs,_,hl,hm,hmm,hx,hi⟩
 ·simp [Value.cells] at hcs;obtain⟨rfl,rfl,rfl⟩:=hcs;exact⟨λ_=>(none,0,0,[]),Nat.le_refl _,om9,λr hr=>by omega⟩
 ·simp [Value.cells] at hcs;obtain⟨rfl,rfl,rfl⟩:=hcs;rw [if_pos rfl] at hmm;rw [hmm] at hx hi;subst hx;have v:=UA.slice_le (H:=H) ((List.range n).map D) ((List.range (c - n)).map λj=>D (n+j));have p:Rows.uptoBulk (DataW.slice (H:=H) ((List.range n).map D) ((List.range (c - n)).map λj=>D (n+j)))<=1048576:=hb;have s:c<=1048576:=by
   simp only [List.length_map,List.length_range] at v;omega
  have b:∀r,r<n->∃q:oA9×Nat×Nat×List (Int×Int),W.cell? (a.add r)=some (.slice q.1 q.2.1 q.2.2.1)/\zaX W q.1 q.2.1 q.2.2.1 q.2.2.2:=λr hr=>by
   obtain⟨cs,f,z⟩:=hi r om9;rw [l] at f;obtain⟨_,g,o⟩:=World.cells?_some f;obtain⟨c0,rfl⟩:∃c0,cs=[c0]:=by
    match cs,g with
    |[c0],_=>exact⟨c0,rfl⟩
   have hD:Rows.uptoBulk (D r)<=1048576:=by
    have u:D r ∈(List.range n).map D:=List.mem_map.2 ⟨r,List.mem_range.2 hr,rfl⟩;have hm2:=UA.mem_le u;simp only [Rows.uptoBulk] at p;omega
   obtain⟨A',n',c',L,rfl,hL⟩:=ziD (x:=(D r,Pl r)) ht hs hf hC h0 h1 z hD;have h0:=o 0 de9;rw [Go.Deep.add_add,Nat.mul_one,Nat.add_zero] at h0;exact⟨(A',n',c',L),h0,hL⟩
  refine⟨λr=>if hr:r<n then(b r hr).choose else(none,0,0,[]),hl,s,λr hr=>⟨a,rfl,?_,?_⟩⟩
  ·have:=World.block_lt_of_cell? W _ (b r hr).choose_spec.1;rw [zan] at this;exact this
  ·simp only [dif_pos hr];exact(b r hr).choose_spec
theorem zaX.take {W:World}{A:oA9}{n c N:Nat}{L:List (Int×Int)}(h:zaX W A n c L)(hN:N<=n):zaX W A N c (L.take N):=by
 have hl:=h.len;have hf:=h.fits;refine⟨by rw [List.length_take];omega,om9,h.small,λq hq=>h.ints q (List.mem_of_mem_take hq),λr q hr=>?_⟩;rw [List.getElem?_take] at hr
 split at hr
 ·exact h.row r q hr
 ·cases hr
open Go Go.RowKit Go.Proofs.Tryz
set_option maxHeartbeats 16000000
set_option maxRecDepth 100000
set_option linter.unusedVariables false
theorem zkk (w:World):zal w 0 none 0 0:=⟨zav.none_,Nat.le_refl _,om9⟩
open Go Go.RowKit Go.Proofs.Tryz
set_option maxHeartbeats 16000000
set_option maxRecDepth 100000
set_option linter.unusedVariables false
def GivesH (w:World)(x:Nat)(e:Ending)(w':World):Prop:=∃(A:oA9) (n c:Nat),e=.returned (.slice A n c)/\zal w' x A n c/\Below w.heap.size w w'
theorem zqs (w:World)(g:Nat)(h:Blk w g 3 #[.int .i64 1]):zal w 1 (some ⟨g,0,none⟩) 1 1:=by
 have e:dg 65536 1=[1]:=by
  rw [zen de9 de9];rfl
 refine⟨?_,Nat.le_refl _,om9⟩;rw [e];refine⟨rfl,λ_=>⟨_,rfl,h.lt,λj u hu=>?_⟩⟩
 match j,hu with
 |0,hu=>simp [zaw] at hu;subst hu;exact h.cell 0
open Go Go.RowKit Go.Proofs.Tryz
set_option maxHeartbeats 16000000
set_option maxRecDepth 100000
set_option linter.unusedVariables false
def Fr (w:World)(A:oA9):Prop:=∀ad,A=some ad->w.heap.size<=ad.block
theorem Fr.from_ {w w':World}{A:oA9}(h:Fr w' A)(hb:Below w.heap.size w w'):Fr w A:=λad e=>Nat.le_trans hb.size (h ad e)
theorem zbA.elim2 {w w':World}{x:Nat}{e:Ending}(h:zbA w x e w'):∃(A:oA9) (n c:Nat),e=.returned (.slice A n c)/\zal w' x A n c/\Fr w A/\Below w.heap.size w w':=by
 obtain⟨A,c,rfl,hr,h1,⟨h2,hf⟩,h3⟩:=h;exact⟨A,_,c,rfl,⟨hr,h1,h2⟩,hf,h3⟩
def ziw (w:World)(q r:Nat)(e:Ending)(w':World):Prop:=∃(A:oA9) (n c:Nat) (B:oA9) (m d:Nat),e=.returned (.tuple #[.slice A n c,.slice B m d])/\zal w' q A n c/\Fr w A/\zal w' r B m d/\Below w.heap.size w w'
theorem div_no {m y b:Nat}(hb:b<2)(h:m%y*2+b<y):(m+m+b) / y=m / y*2+0/\(m+m+b)%y=m%y*2+b:=by
 have h1:=Nat.div_add_mod m y;have e:m+m+b=y*(m / y*2)+(m%y*2+b):=by rw [Nat.mul_comm (m / y) 2,Nat.mul_left_comm];omega
 rw [e,Nat.mul_add_div om9,Nat.mul_add_mod,Nat.div_eq_of_lt h,Nat.mod_eq_of_lt h];exact⟨rfl,rfl⟩
theorem div_yes {m y b:Nat}(hy:y≠0)(hb:b<2)(h:y<=m%y*2+b):(m+m+b) / y=m / y*2+0+1/\(m+m+b)%y=m%y*2+b - y:=by
 have h1:=Nat.div_add_mod m y;have h2:=Nat.mod_lt m (y:=y) om9;have h3:m%y*2+b - y<y:=om9;have e:m+m+b=y*(m / y*2+1)+(m%y*2+b - y):=by rw [Nat.mul_add,Nat.mul_comm (m / y) 2,Nat.mul_left_comm];omega
 rw [e,Nat.mul_add_div om9,Nat.mul_add_mod,Nat.div_eq_of_lt h3,Nat.mod_eq_of_lt h3];exact⟨rfl,rfl⟩
theorem zmm (x y:Nat):decide (0<=zby x y)=decide (y<=x):=by
 rw [Bool.eq_iff_iff];simp only [decide_eq_true_eq];unfold zby
 split
 ·omega
 ·split<;>omega
theorem zgo (x y:Nat)(A D:oA9)(n m c d:Nat)(w:World)(hA:zal w x A n c)(hD:zal w y D m d)(hn:n<=17179869184)(hm:m<=17179869184)(hy:y≠0):
  Calls prog 181 #[.slice A n c,.slice D m d] w (ziw w (x / y) (x%y)):=by
 have ac:=lh9 hA.len;have ae:=lh9 hD.len;have HA:=up9 w (λw' hb=>hA.below hb);have HD:=up9 w (λw' hb=>hD.below hb);have RB:=zkG x A n c w hA om9;have ab:bitLen x<=16*n:=by
  have h1:=zbh (b:=65536) de9 x;rw [<-hA.len,show(65536:Nat)=2^16 from rfl,<-Nat.pow_mul] at h1;exact zds _ _ h1
 have h0:x / 2^bitLen x=0:=Nat.div_eq_of_lt (lt_bits x);obtain⟨l,hl⟩:∃l,bitLen x=l:=⟨_,rfl⟩;rw [hl] at RB ab h0;have X:=lh9 RB;have H0:=lh9 h0;clear hA hD RB hl h0;go_enter func181,ntmps181;go_wp2_with fail;refine X.out.mono ?_;rintro e w' ⟨rfl,rfl⟩;go_wp2_with fail
 go_loopg [6,7,8] (l+1) (λg qs rs ix wr=>∃(j:Nat) (A1:oA9) (n1 c1:Nat) (A2:oA9) (n2 c2:Nat),j<=l/\j<g/\ix=.int .i64 ((j:Int) - 1)/\qs=.slice A1 n1 c1/\rs=.slice A2 n2 c2/\Hid (zal wr (x / 2^j / y) A1 n1 c1)/\Hid (zal wr (x / 2^j%y) A2 n2 c2)/\Below w.heap.size w wr/\Hid (Fr w A1))
 case atStart=>
  refine⟨l,none,0,0,none,0,0,Nat.le_refl _,om9,rfl,rfl,rfl,?_,?_,Below.refl _ _,λad e=>by cases e⟩
  ·show zal _ _ _ _ _;rw [H0.out,Nat.zero_div];exact zkk _
  ·show zal _ _ _ _ _;rw [H0.out,Nat.zero_mod];exact zkk _
 case round=>
  obtain⟨j,A1,n1,c1,A2,n2,c2,hjl,hg,rfl,rfl,rfl,hq,hr,hB,hF⟩:=hrel;by_cases hj:j=0
  ·subst hj;have e1:=hq.out;have e2:=hr.out;rw [Nat.pow_zero,Nat.div_one] at e1 e2;have HG:Hid (ziw w (x / y) (x%y) (.returned (.tuple #[.slice A1 n1 c1,.slice A2 n2 c2])) wr):=⟨_,_,_,_,_,_,rfl,e1,hF.out,e2,hB⟩;clear hq hr e1 e2 hF;go_wp2
   go_ret2
   exact HG.out
  ·obtain⟨i,rfl⟩:∃i,j=i+1:=⟨j - 1,om9⟩;have hqn:n1<=n:=by
    rw [hq.out.len,ac.out];exact zbr de9 (Nat.le_trans (Nat.div_le_self _ _) (Nat.div_le_self _ _))
   have hrn:n2<=m:=by
    rw [hr.out.len,ae.out];exact zbr de9 (Nat.le_of_lt (Nat.mod_lt _ om9))
   have a:x / 2^i%2<2:=Nat.mod_lt _ de9;have h:=shr_step x i;have WB:=ref2_bit x i A n c wr (HA.out _ hB) om9 om9;obtain⟨M,hM⟩:∃M,x / 2^(i+1)=M:=⟨_,rfl⟩;obtain⟨b,hb⟩:∃b,x / 2^i%2=b:=⟨_,rfl⟩;rw [hM] at hq hr h;rw [hb] at h a WB;have S1:=zgF (M%y) 2 b A2 n2 c2 wr hr.out om9 de9 om9;have Y:=lh9 WB;have E:=lh9 S1;have I:=lh9 h;have hr1:(dg 65536 (M%y*2+b)).length<=n2+1:=by
    refine zbB de9 _ _ ?_;have h1:=zbh (b:=65536) de9 (M%y);rw [<-hr.out.len] at h1;rw [Nat.pow_succ];omega
   have hq1:(dg 65536 (M / y*2+0)).length<=n1+1:=by
    refine zbB de9 _ _ ?_;have h1:=zbh (b:=65536) de9 (M / y);rw [<-hq.out.len] at h1;rw [Nat.pow_succ];omega
   clear WB S1 hM hb hr h;go_wp2_with fail;refine Y.out.mono ?_;rintro e w' ⟨rfl,rfl⟩;go_wp2_with fail;refine E.out.mono ?_;intro e w1 O;obtain⟨A3,n3,c3,rfl,u,o⟩:=O.elim;have J:=zac hB o;have hn3:n3<=m+1:=by rw [u.len];omega
   have F:=lh9 (zgF (M / y) 2 0 A1 n1 c1 w1 (hq.out.below o) om9 de9 de9);have H3:=lh9 u;clear O u o hq E;go_wp2_with fail;refine F.out.mono ?_;intro e w2 P;obtain⟨A4,n4,c4,rfl,v,L,p⟩:=P.elim2;have f:=zac J p;have U:=lh9 (L.from_ J);have hn4:n4<=n+1:=by rw [v.len];omega
   have H3:=lh9 (H3.out.below p);have H4:=lh9 v;have C:=lh9 (zho (M%y*2+b) y A3 D n3 m c3 d w2 H3.out (HD.out _ f) om9 om9);clear P v p F L hF;go_wp2_with fail;refine C.out.mono ?_;rintro e w3 ⟨rfl,q,rfl⟩;clear C;by_cases hlt:M%y*2+b<y
   ·have hd:decide (zby (M%y*2+b) y>=0)=false:=by
     show decide (0<=zby _ _)=false;rw [zmm];simp;omega
    have t:decide (0<=zby (M%y*2+b) y)=false:=hd;obtain⟨e1,e2⟩:=div_no a hlt;rw [<-I.out] at e1 e2;have HQ:Hid (zal (w2.drewN q) (x / 2^i / y) A4 n4 c4):=by show zal _ _ _ _ _;rw [e1];exact H4.out
    have HR:Hid (zal (w2.drewN q) (x / 2^i%y) A3 n3 c3):=by show zal _ _ _ _ _;rw [e2];exact H3.out
    have k:=zbl f q;obtain⟨z,hz⟩:∃z,zby (M%y*2+b) y=z:=⟨_,rfl⟩;rw [hz] at hd t⊢;clear e1 e2 hz hlt;go_wp2;go_roundg (i+1)
    case measure=>omega
    case rel=>exact⟨i,_,_,_,_,_,_,om9,om9,by go_num,rfl,rfl,HQ,HR,k,U⟩
   ·have hd:decide (zby (M%y*2+b) y>=0)=true:=by
     show decide (0<=zby _ _)=true;rw [zmm];simp;omega
    have t:decide (0<=zby (M%y*2+b) y)=true:=hd;obtain⟨e1,e2⟩:=div_yes hy a (by omega:y<=M%y*2+b);rw [<-I.out] at e1 e2;have G:=lh9 (zfL (M%y*2+b) y om9 A3 D n3 m c3 d (w2.drewN q) H3.out (HD.out _ (zbl f q)) om9 om9);have E1:=lh9 e1;have E2:=lh9 e2;have k:=zbl f q;obtain⟨z,hz⟩:∃z,zby (M%y*2+b) y=z:=⟨_,rfl⟩;rw [hz] at hd t⊢;clear e1 e2 hz hlt;go_wp2_with fail;refine G.out.mono ?_;intro e w4 Q;obtain⟨A5,n5,c5,rfl,S,r⟩:=Q.elim;have Z:=zac k r;have B:zal (w2.drewN q) (M / y*2+0) A4 n4 c4:=H4.out;have st:=zaY w4 (.cells #[.int .i64 1] 3);have h1:=zqs _ _ (Blk.new w4 3 #[.int .i64 1]);have H:=lh9 (ref2_add (M / y*2+0) 1 A4 (some ⟨w4.heap.size,0,none⟩) n4 1 c4 1 _ ((B.below r).below st) h1 om9 om9);have H5:=lh9 (S.below st);have K:=zac Z st;clear Q S r G B h1 st;go_wp2_with fail;refine H.out.mono ?_;intro e w5 R;obtain⟨A6,n6,c6,rfl,T,N,s⟩:=R.elim2;have aa:=zac K s;have V:=lh9 (N.from_ K);have HQ:Hid (zal w5 (x / 2^i / y) A6 n6 c6):=by show zal _ _ _ _ _;rw [E1.out];exact T
    have HR:Hid (zal w5 (x / 2^i%y) A5 n5 c5):=by show zal _ _ _ _ _;rw [E2.out];exact H5.out.below s
    clear R T s H N;go_wp2;go_roundg (i+1)
    case measure=>omega
    case rel=>exact⟨i,_,_,_,_,_,_,om9,om9,by go_num,rfl,rfl,HQ,HR,aa,V⟩
