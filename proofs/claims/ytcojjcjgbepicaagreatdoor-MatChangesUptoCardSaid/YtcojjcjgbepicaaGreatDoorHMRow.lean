/- What this claim leans on. -/
import Derived.Test.YtcojjcjgbepicaaGreatDoorHVMade
import Derived.Test.YtcojjcjgbepicaaGreatDoorHVOne
namespace Go.Proofs.YtcojjcjgbepicaaGreatDoor
open Go Go.RowKit Go.Proofs.Tryz
set_option maxHeartbeats 16000000
set_option linter.unusedVariables false
set_option linter.unusedSimpArgs false
section
variable {α:Type}{E:El α}
theorem row_neS {w:World}{A:oA9}{n c g:Nat}{xs:List α}{t:TypeId}{cs:Array Value}(h:zaE E w A n c xs)(hk:Blk w g t cs)(hs:∀u ∈ cs.toList,∀b,u≠.bool b):0<n->∀ad,A=some ad->ad.block≠g:=λhn a e0 hg=>by
 have hl:=h.len;have h0:0<xs.length:=om9;obtain⟨ad,b,B,m,d,F,u,v,e,h1,h2,h3,h4,h5⟩:=h.num 0 _ (List.getElem?_eq_getElem h0);obtain rfl:a=ad:=by rw [e0] at e;injection e
 have hb:(a.add (0*3)).block=g:=by rw [zan];exact hg
 generalize a.add (0*3)=q at hb h2;obtain⟨bk,off,pr⟩:=q;simp only at hb;subst hb;unfold Blk at hk;cases pr with
 |none=>
   rw [show w.cell? ⟨bk,off,none⟩=cs[off]? from cell_of_row w bk off _ t (0,0) hk,<-Array.getElem?_toList] at h2;exact hs _ (List.mem_of_getElem? h2) b rfl
 |some q=>simp [World.cell?,hk] at h2
theorem zhr {w w':World}{A:oA9}{n c g:Nat}{xs:List α}{t:TypeId}{cs:Array Value}(h:zaE E w A n c xs)(hk:Blk w g t cs)(hs:∀u ∈ cs.toList,∀b,u≠.bool b)(ho:zbn g w w')
  (hE:∀{x:α} {b:Bool} {A:oA9} {n c:Nat} {F:oA9} {k f:Nat},E w x b A n c F k f->E w' x b A n c F k f):zaE E w' A n c xs:=by
 have a:=row_neS h hk hs;refine⟨h.len,h.fits,h.most,λi x hi=>?_⟩;have hl:=h.len;have hlt:=(List.getElem?_eq_some_iff.1 hi).1;obtain⟨ad,b,B,m,d,F,u,v,e,h1,h2,h3,h4,h5⟩:=h.num i x hi;have hc:∀j,w'.cell? (ad.add j)=w.cell? (ad.add j):=λj=>ho.2 _ (by rw [zan];exact h1) (by rw [zan];exact a om9 ad e);exact⟨ad,b,B,m,d,F,u,v,e,Nat.lt_of_lt_of_le h1 ho.1,(hc _).trans h2,(hc _).trans h3,(hc _).trans h4,hE h5⟩
theorem zre {cs:Array Value}(hs:∀u ∈ cs.toList,zbf u):∀u ∈ cs.toList,∀b,u≠.bool b:=λu hu b e=>by
 obtain⟨A,n,c,e2⟩:=hs u hu;rw [e2] at e;cases e
theorem zpb {cs:Array Value}(hs:∀u ∈ cs.toList,zbf u):NoU cs:=λq hq k z e9=>by
 obtain⟨A9,n9,c9,e8⟩:=hs q hq;rw [e8] at e9;cases e9
theorem zfN (hE:zbp E){w w':World}{A:oA9}{n c g:Nat}{xs:List α}{t:TypeId}{cs:Array Value}(h:zaE E w A n c xs)(hk:Blk w g t cs)(hs:∀u ∈ cs.toList,zbf u)(ho:zbn g w w'):zaE E w' A n c xs:=
 zhr h hk (zre hs) ho (λh5=>hE.offg h5 hk (zpb hs) ho)
end
abbrev RP (α:Type):=World->oA9->Nat->Nat->List α->Prop
structure zcL {α:Type}(R:RP α):Prop where
 len:∀{w:World} {A:oA9} {n c:Nat} {xs:List α},R w A n c xs->xs.length=n
 below:∀{w w':World} {A:oA9} {n c:Nat} {xs:List α},R w A n c xs->Below w.heap.size w w'->R w' A n c xs
 offS:∀{w w':World} {A:oA9} {n c g:Nat} {xs:List α} {t:TypeId} {cs:Array Value},R w A n c xs->Blk w g t cs->(∀u ∈ cs.toList,zbf u)->zbn g w w'->R w' A n c xs
 nil:∀w:World,R w none 0 0 []
theorem zaq {α:Type}{E:El α}(hE:zbp E):zcL (zaE E):=⟨λh=>h.len,λh hb=>h.below hE hb,λh hk hs ho=>zfN hE h hk hs ho,λw=>zaE.nil w⟩
theorem zcL.grown {α:Type}{R:RP α}(hR:zcL R){w w':World}{v:Value}{A:oA9}{n c:Nat}{xs:List α}(h:R w A n c xs)(hg:w.grownBy w' v.ownBlock)(hn:zbL w v):R w' A n c xs:=by
 cases hv:v.ownBlock with
 |none=>rw [hv] at hg;exact hR.below h (zbx hg)
 |some g=>
   rw [hv] at hg;obtain⟨t,cs,hk,hc⟩:=hn.blk hv;exact hR.offS h hk hc (zbn.of_grown hg)
section
variable {α:Type}{R:RP α}
structure zaJ (R:RP α)(w:World)(A:oA9)(n:Nat)(Ls:List (List α)):Prop where
 len:Ls.length=n
 num:∀i L,Ls[i]?=some L->∃(ad:Addr) (B:oA9) (d:Nat),A=some ad/\ad.block<w.heap.size/\w.cell? (ad.add i)=some (.slice B L.length d)/\R w B L.length d L
theorem zaJ.below (hR:zcL R){w w':World}{A:oA9}{n:Nat}{Ls:List (List α)}(h:zaJ R w A n Ls)(hb:Below w.heap.size w w'):zaJ R w' A n Ls:=
 ⟨h.len,λi L hi=>by
  obtain⟨ad,B,d,e,h1,h2,h3⟩:=h.num i L hi;exact⟨ad,B,d,e,Nat.lt_of_lt_of_le h1 hb.size,zae hb h2,hR.below h3 hb⟩⟩
theorem zaJ.nil (w:World)(A:oA9):zaJ R w A 0 []:=⟨rfl,λi L hi=>by simp at hi⟩
theorem zaJ.get (hR:zcL R){w wr:World}{A:oA9}{n m:Nat}{Ls:List (List α)}(h:zaJ R w A n Ls)(hb:Below w.heap.size w wr){i:Nat}(hi:i<n)(hm:(Ls.getD i []).length=m):∃(ad:Addr) (B:oA9) (d:Nat),A=some ad/\ad.block<w.heap.size/\wr.cell? (ad.add i)=some (.slice B m d)/\R wr B m d (Ls.getD i []):=by
 have hl:=h.len;obtain⟨ad,B,d,e,h1,h2,h3⟩:=h.num i _ (zcd (d:=[]) om9);rw [hm] at h2 h3;exact⟨ad,B,d,e,h1,zae hb h2,hR.below h3 hb⟩
theorem zaJ.off {w w':World}{A:oA9}{n g:Nat}{Ls:List (List α)}(h:zaJ R w A n Ls)(hf:∀ad,A=some ad->ad.block≠g)(ho:zbn g w w')(a:∀{B:oA9} {m d:Nat} {L:List α},R w B m d L->R w' B m d L):zaJ R w' A n Ls:=
 ⟨h.len,λi L hi=>by
  obtain⟨ad,B,d,e,h1,h2,h3⟩:=h.num i L hi;exact⟨ad,B,d,e,Nat.lt_of_lt_of_le h1 ho.1,(ho.2 _ (by rw [zan];exact h1) (by rw [zan];exact hf ad e)).trans h2,a h3⟩⟩
structure zbd (R:RP α)(w:World)(t:TypeId)(g n:Nat)(Ls:List (List α)):Prop where
 len:Ls.length=n
 blk:∃cs:Array Value,Blk w g t cs/\(∀u ∈ cs.toList,zbf u)/\cs.size=n
 num:∀i L,Ls[i]?=some L->∃(B:oA9) (d:Nat),w.cell? ⟨g,i,none⟩=some (.slice B L.length d)/\R w B L.length d L
theorem zbd.lt {w:World}{t:TypeId}{g n:Nat}{Ls:List (List α)}(h:zbd R w t g n Ls):g<w.heap.size:=by
 obtain⟨cs,hk,_⟩:=h.blk;exact hk.lt
theorem zbd.below (hR:zcL R){w w':World}{t:TypeId}{g n:Nat}{Ls:List (List α)}(h:zbd R w t g n Ls)(hb:Below w.heap.size w w'):zbd R w' t g n Ls:=by
 refine⟨h.len,?_,λi x hi=>?_⟩
 ·obtain⟨cs,hk,h1,h2⟩:=h.blk;exact⟨cs,zad hb hk,h1,h2⟩
 ·obtain⟨B,d,h1,h2⟩:=h.num i x hi;exact⟨B,d,zae hb h1,hR.below h2 hb⟩
theorem zbd.rows {w:World}{t:TypeId}{g n:Nat}{Ls:List (List α)}(h:zbd R w t g n Ls):zaJ R w (some ⟨g,0,none⟩) n Ls:=
 ⟨h.len,λi x hi=>by
  obtain⟨B,d,h1,h2⟩:=h.num i x hi;exact⟨_,B,d,rfl,h.lt,by rw [zaF];exact h1,h2⟩⟩
theorem zbd.ready {w:World}{t:TypeId}{g n:Nat}{Ls:List (List α)}(h:zbd R w t g n Ls){i:Nat}(hi:i<n):∃a:Value,w.cell? ⟨g,i,none⟩=some a/\w.frozen? ⟨g,i,none⟩=false:=by
 obtain⟨cs,hk,h1,h2⟩:=h.blk;have e0:i<cs.size:=om9;exact⟨_,(hk.cell _).trans (Array.getElem?_eq_getElem e0),hk.frozen _⟩
theorem zbd.set_ (hR:zcL R){w:World}{t:TypeId}{g n m:Nat}{Ls:List (List α)}(h:zbd R w t g n Ls){i:Nat}(hi:i<n){L:List α}{B:oA9}{d:Nat}(hx:R w B m d L)(hm:L.length=m):
  zbd R (w.setCell ⟨g,i,none⟩ (.slice B m d)) t g n (Ls.set i L):=by
 subst hm;obtain⟨cs,hk,h1,h2⟩:=h.blk;have ho:zbn g w (w.setCell ⟨g,i,none⟩ (.slice B L.length d)):=zbn.of_far ((zbS.refl g w).set_ i _);have a:=hk.set_ i (.slice B L.length d);refine⟨by rw [List.length_set];exact h.len,⟨_,a,?_,by simp;exact h2⟩,λj y hj=>?_⟩
 ·intro u hu;rw [Array.toList_setIfInBounds] at hu;rcases List.mem_or_eq_of_mem_set hu with hu|rfl
  ·exact h1 u hu
  ·exact⟨_,_,_,rfl⟩
 ·by_cases hij:i=j
  ·subst hij;have hl:=h.len;rw [List.getElem?_set_self om9] at hj;injection hj with hj;subst hj;refine⟨B,d,?_,hR.offS hx hk h1 ho⟩;rw [a.cell,Array.getElem?_setIfInBounds_self_of_lt om9]
  ·rw [List.getElem?_set_ne hij] at hj;obtain⟨B',d',c1,c2⟩:=h.num j y hj;refine⟨B',d',?_,hR.offS c2 hk h1 ho⟩;rw [a.cell,Array.getElem?_setIfInBounds_ne om9,<-hk.cell];exact c1
def zdN:Array Value:=#[.slice none 0 0]
theorem znM (n:Nat):∀u ∈(madeCells zdN n).toList,zbf u:=by
 intro v hv;rw [Array.mem_toList_iff,Array.mem_iff_getElem?] at hv;obtain⟨j,hj⟩:=hv;have a:j<n:=by
  have:=(Array.getElem?_eq_some_iff.1 hj).1;rwa [size_madeCells] at this
 rw [zbJ _ _ _ a,show zdN.size=1 from rfl,Nat.mod_one] at hj;simp [zdN] at hj;exact⟨_,_,_,hj.symm⟩
theorem zbd.made (hR:zcL R)(w:World)(t:TypeId)(n:Nat):zbd R (w.alloc (.cells (madeCells zdN n) t)) t w.heap.size n (List.replicate n []):=by
 have hk:=Blk.new w t (madeCells zdN n);refine⟨si9,⟨_,hk,znM _,size_madeCells _ _⟩,λi x hi=>?_⟩;have a:i<n:=by
  have:=(List.getElem?_eq_some_iff.1 hi).1;simpa using this
 obtain rfl:[]=x:=by
  rw [List.getElem?_replicate,if_pos a] at hi;injection hi
 refine⟨none,0,?_,hR.nil _⟩;rw [hk.cell,zbJ _ _ _ a,show zdN.size=1 from rfl,Nat.mod_one];rfl
structure zaN (R:RP α)(w:World)(base:Nat)(t:TypeId)(v:Value)(Ls:List (List α))(vs:List Value):Prop where
 own:w.ownsRow base t 1 v Ls.length vs
 sl:zbL w v
 num:∀(i:Nat) (L:List α),Ls[i]?=some L->∃(B:oA9) (d:Nat),vs[i]?=some (Value.slice B L.length d)/\R w B L.length d L
theorem zaN.nil (w:World)(base:Nat)(t:TypeId):zaN R w base t (.slice none 0 0) [] []:=⟨World.ownsRow_nil _ _ _ _,zbL.nil _ _,λi L hi=>by simp at hi⟩
theorem zaN.len {w:World}{base:Nat}{t:TypeId}{v:Value}{Ls:List (List α)}{vs:List Value}(h:zaN R w base t v Ls vs):vs.length=Ls.length:=by have:=h.own.1;omega
theorem zaN.shape {w:World}{base n:Nat}{t:TypeId}{v:Value}{Ls:List (List α)}{vs:List Value}(h:zaN R w base t v Ls vs)(hn:Ls.length=n):∃A c,v=.slice A n c/\n<=c/\c<=9223372036854775807/\zaJ R w A n Ls/\∀ad,A=some ad->base<=ad.block:=by
 subst hn;rcases h.own.2 with⟨rfl,h0⟩|⟨g,cap,cur,rfl,hbg,hg,hnc,hcm,hcs,htake⟩
 ·have hx:Ls=[]:=List.eq_nil_of_length_eq_zero h0;subst hx;exact⟨none,0,rfl,Nat.le_refl _,de9,zaJ.nil w none,λad e=>by cases e⟩
 ·have a:=h.own.cells (g:=g) rfl;refine⟨some ⟨g,0,none⟩,cap,rfl,hnc,by unfold maxLen at hcm;omega,⟨rfl,λi L hi=>?_⟩,λad e=>by injection e with e;subst e;exact hbg⟩;obtain⟨B,d,hv,hw⟩:=h.num i L hi;exact⟨_,B,d,rfl,(Array.getElem?_eq_some_iff.1 hg).1,a _ _ hv,hw⟩
theorem zaN.below (hR:zcL R){w w':World}{base:Nat}{t:TypeId}{v:Value}{Ls:List (List α)}{vs:List Value}(h:zaN R w base t v Ls vs)(hb:Below w.heap.size w w'):zaN R w' base t v Ls vs:=by
 refine⟨⟨h.own.1,?_⟩,h.sl.below hb,λi L hi=>?_⟩
 ·rcases h.own.2 with h1|⟨g,cap,cur,e1,e2,e3,e4⟩
  ·exact .inl h1
  ·exact .inr ⟨g,cap,cur,e1,e2,(hb.block g (Blk.lt (t:=t) (cs:=cur) e3)).trans e3,e4⟩
 ·obtain⟨B,d,hv,hw⟩:=h.num i L hi;exact⟨B,d,hv,hR.below hw hb⟩
theorem zaN.grow (hR:zcL R){w w':World}{base n m:Nat}{t:TypeId}{v v':Value}{Ls:List (List α)}{vs:List Value}{L:List α}{B:oA9}{d:Nat}(h:zaN R w base t v Ls vs)(hx:R w B m d L)(hm:L.length=m)
  (ho:w'.ownsRow base t 1 v' n (vs++[.slice B m d])) (hn:n=Ls.length+1) (hg:w.grownBy w' v.ownBlock) (hs:zbL w' v'):zaN R w' base t v' (Ls++[L]) (vs++[.slice B m d]):=by
 subst hm;have hl:=h.len;refine⟨by rw [List.length_append,List.length_singleton,<-hn];exact ho,hs,λi M hi=>?_⟩;by_cases hlt:i<Ls.length
 ·rw [List.getElem?_append_left hlt] at hi;obtain⟨C,e,hv,hw⟩:=h.num i M hi;exact⟨C,e,by rw [List.getElem?_append_left om9];exact hv,hR.grown hw hg h.sl⟩
 ·rw [List.getElem?_append_right om9] at hi;have a:i=Ls.length:=by
   have:=(List.getElem?_eq_some_iff.1 hi).1;simp at this;omega
  subst a;obtain rfl:L=M:=by
   rw [Nat.sub_self] at hi;injection hi
  exact⟨B,d,by rw [List.getElem?_append_right om9,hl,Nat.sub_self];rfl,hR.grown hx hg h.sl⟩
theorem zrb (hR:zcL R){w:World}{g:Nat}{t:TypeId}{A B:oA9}{n m c d:Nat}{xs ys:List α}(h:Blk w g t #[.slice A n c,.slice B m d])(h1:R w A n c xs)(h2:R w B m d ys):zaJ R w (some ⟨g,0,none⟩) 2 [xs,ys]:=by
 refine⟨rfl,λi L hi=>?_⟩;have a:=hR.len h1;have b:=hR.len h2
 match i,hi with
 |0,hi=>
   obtain rfl:xs=L:=by simpa using hi
   rw [a];exact⟨_,A,c,rfl,h.lt,by rw [zaF];exact h.cell 0,h1⟩
 |1,hi=>
   obtain rfl:ys=L:=by simpa using hi
   rw [b];exact⟨_,B,d,rfl,h.lt,by rw [zaF];exact h.cell 1,h2⟩
 |i+2,hi=>simp at hi
end
theorem zkr (n:Nat)(hn:n<=1099511627776):∃Z:Array Value,∀W:World,(Instr.makeSlice 30 (.int .i64 (n:Int)) (.int .i64 (n:Int))).run prog W=.ok (.slice (some ⟨W.heap.size,0,none⟩) n n) (W.alloc (.cells Z 71))/\zbd (zaE zak) (W.alloc (.cells Z 71)) 71 W.heap.size n (List.replicate n []):=by
 obtain⟨i0,a,b,c,d⟩:=info_parts zeq;refine⟨madeCells zdN n,λW=>⟨?_,zbd.made (zaq zas) W _ n⟩⟩;have h:=zaW (P:=prog) _ _ i0 _ underlying30 a b .i64 .i64 n n (Nat.le_refl _) (by rw [d];omega) om9 W;rw [c,Nat.mul_one] at h;exact h
theorem zbe {P:Program}(w:World){o:Oper}{a:Act}{K:Act->World->Prop}{Q:Exit->Act->World->Prop}(s x:Operand)(t:TypeId)
  (ho:o.op=.call {callee:=.builtin .append,args:=#[s,x],argTypes:=#[t,t]})
  (base:Nat) (e:TypeId) (i:TypeInfo) (z:Value) (size bytes:Nat) (ht:P.underlying t=some (.slice e)) (hi:P.info? e=some i) (hz:i.zero=some z)
  (k:i.size=size) (r:i.bytes=bytes) (B:z.cells.size=size) (hsz:0<size)
  (v:Value) (n:Nat) (xs:List Value) (hs:a.eval s=v) (l:w.ownsRow base e size v n xs)
  (ad:Addr) (m c:Nat) (b:List Value) (hx:a.eval x=.slice (some ad) m c) (hl:b.length=m*size) (g:∀j u,b[j]?=some u->w.cell? (ad.add j)=some u) (h1:∀u ∈ b,u.oneCell'=true)
  (p:n+m<=maxLen) (d:(n+m)*bytes<=140737488355328) (f:base<=w.heap.size)
  (hv:zbL w v) (A:∀u ∈ z.cells.toList,zbf u) (y:∀u ∈ b,zbf u)
  (h:∀v' w',w'.ownsRow base e size v' (n+m) (xs++b)->w.grownBy w' v.ownBlock->(v'.ownBlock=v.ownBlock\/v'.ownBlock=some w.heap.size)->zbL w' v'->K (a.put o.dst v') w'):Oper.wp P o a w K Q:=by
 obtain⟨v',w',hr,h2,h3,h4,h5⟩:=zgp (P:=P) w base t o.type e i z size bytes ht hi hz k r B hsz v n xs l ad m c b hl g h1 p d f hv A y;unfold Oper.wp execOp;simp only [ho,resolve,invoke,builtin,Sem.run_bind,Sem.run_pure,Result.andThen_ok,List.map_toArray,List.map_cons,List.map_nil,hs,hx,hr];exact h v' w' h2 h3 h4 h5
set_option maxRecDepth 100000
def NoK (k:IntKind)(cs:Array Value):Prop:=∀v ∈ cs.toList,∀z,v≠.int k z
theorem zqV {w:World}{A:oA9}{n g:Nat}{k:IntKind}{l:List Nat}{t:TypeId}{cs:Array Value}(h:zav w w.heap.size 1 A n (zaw k l))(hk:Blk w g t cs)(a:NoK k cs):0<n->∀ad,A=some ad->ad.block≠g:=λhn ad e hg=>by
 have hl:=h.len_;obtain⟨ad',e',_,hc⟩:=h.2 hn;rw [e] at e';injection e' with e';subst e';have h0:=hc 0 (.int k (l.getD 0 0:Nat)) (zcO k _ 0 om9);have e0:ad.add 0=ad:=by unfold Addr.add;rw [if_pos rfl]
 rw [e0] at h0;obtain⟨bk,off,pr⟩:=ad;simp only at hg;subst hg;unfold Blk at hk;cases pr with
 |none=>
   rw [show w.cell? ⟨bk,off,none⟩=cs[off]? from cell_of_row w bk off _ t (0,0) hk,<-Array.getElem?_toList] at h0;exact a _ (List.mem_of_getElem? h0) _ rfl
 |some q=>simp [World.cell?,hk] at h0
theorem zjH {w w':World}{x:Nat}{A:oA9}{n c g:Nat}{t:TypeId}{cs:Array Value}(h:zaf w x A n c)(hk:Blk w g t cs)(a:NoK .u64 cs)(ho:zbn g w w'):zaf w' x A n c:=by
 have b:=zqV h.1 hk a;refine⟨⟨h.1.1,λhn=>?_⟩,h.2⟩;obtain⟨ad,e,hb,hc⟩:=h.1.2 hn;refine⟨ad,e,Nat.lt_of_lt_of_le hb ho.1,λj v hv=>?_⟩;rw [ho.2 (ad.add j) (by rw [zan];exact hb) (by rw [zan];exact b hn ad e)];exact hc j v hv
theorem zjq {w w':World}{g:Nat}{t:TypeId}{cs:Array Value}(hk:Blk w g t cs)(a:NoK .u64 cs)(ho:zbn g w w'){r:Rat}{b:Bool}{A:oA9}{n c:Nat}{E:oA9}{k f:Nat}(h:zak w r b A n c E k f):zak w' r b A n c E k f:=by
 obtain⟨⟨h1,h2⟩,x,e,h3⟩:=h;exact⟨⟨h1,zjH h2 hk a ho⟩,x,e,zjH h3 hk a ho⟩
theorem zio (A:oA9)(n c:Nat)(z:Int):NoK .u64 #[.slice A n c,.int .i64 z]:=by intro v hv z9 e;simp at hv;rcases hv with rfl|rfl<;>cases e
theorem zbb (A:oA9)(n c:Nat)(z:Int):∀u ∈(#[.slice A n c,.int .i64 z]:Array Value).toList,∀b,u≠.bool b:=by intro v hv b e;simp at hv;rcases hv with rfl|rfl<;>cases e
theorem znG {w w':World}{A:oA9}{n c g:Nat}{xs:List Rat}{t:TypeId}{cs:Array Value}(h:zaL w A n c xs)(hk:Blk w g t cs)(hs:∀u ∈ cs.toList,∀b,u≠.bool b)(a:NoK .u64 cs)(ho:zbn g w w'):zaL w' A n c xs:=
 zhr h hk hs ho (λh5=>zjq hk a ho h5)
def zgu (w:World)(b:Nat)(t:TypeId):Prop:=∃cs,Blk w b t cs
theorem zgu.below {w w':World}{b:Nat}{t:TypeId}(h:zgu w b t)(hb:Below w.heap.size w w'):zgu w' b t:=by
 obtain⟨cs,hk⟩:=h;exact⟨cs,zad hb hk⟩
theorem zgu.set_ {w:World}{b:Nat}{t:TypeId}(h:zgu w b t)(g i:Nat)(v:Value):zgu (w.setCell ⟨g,i,none⟩ v) b t:=by
 obtain⟨cs,hk⟩:=h;by_cases hg:b=g
 ·subst hg;exact⟨_,hk.set_ i v⟩
 ·exact⟨cs,Blk.far (p:=⟨g,i,none⟩) hk hg v⟩
theorem zgu.ne {w:World}{b g:Nat}{t s:TypeId}{cs:Array Value}(h:zgu w b t)(hk:Blk w g s cs)(hn:t≠s):b≠g:=λe=>by
 obtain⟨ds,hd⟩:=h;subst e;unfold Blk at hd hk;rw [hd] at hk;injection hk with hk;injection hk with _ hk;exact hn hk
structure zaH (w:World)(A:oA9)(n c m:Nat)(M:List (List Rat)):Prop where
 dims:zbG M n m
 fits:n<=c
 most:c<=9223372036854775807
 hn:n<=64
 hm:m<=64
 rows:zaJ (zaE zak) w A n M
 ty:∀ad,A=some ad->zgu w ad.block 71
theorem zaH.keep {w w':World}{A:oA9}{n c m:Nat}{M:List (List Rat)}(h:zaH w A n c m M)(hb:Below w.heap.size w w'):zaH w' A n c m M:={h with rows:=h.rows.below (zaq zas) hb,ty:=λad e=>(h.ty ad e).below hb}
theorem zaH.nil (w:World):zaH w none 0 0 0 []:=⟨zmr 0,Nat.le_refl _,de9,de9,de9,zaJ.nil w none,λad e=>by cases e⟩
theorem zaH.offz {w:World}{A:oA9}{n c m g:Nat}{M:List (List Rat)}{t:TypeId}{B:oA9}{p q:Nat}{z:Int}(h:zaH w A n c m M)(hk:Blk w g t #[.slice B p q,.int .i64 z])(x y:Value)(ht:71≠t:=by decide):zaH ((w.setCell ⟨g,0,none⟩ x).setCell ⟨g,1,none⟩ y) A n c m M:=
 { h with
  rows:=h.rows.off (λad e=>(h.ty ad e).ne hk ht) (zbn.of_far (zcM _ _ _ _)) (λh3=>znG h3 hk (zbb _ _ _ _) (zio _ _ _ _) (zbn.of_far (zcM _ _ _ _)))
  ty:=λad e=>((h.ty ad e).set_ _ _ _).set_ _ _ _}
theorem zaL.offz {w:World}{A:oA9}{n c g:Nat}{xs:List Rat}{t:TypeId}{B:oA9}{p q:Nat}{z:Int}(h:zaL w A n c xs)(hk:Blk w g t #[.slice B p q,.int .i64 z])(x y:Value):zaL ((w.setCell ⟨g,0,none⟩ x).setCell ⟨g,1,none⟩ y) A n c xs:=
 znG h hk (zbb _ _ _ _) (zio _ _ _ _) (zbn.of_far (zcM _ _ _ _))
theorem zaH.row {w wr:World}{A:oA9}{n c m:Nat}{M:List (List Rat)}(h:zaH w A n c m M)(hb:Below w.heap.size w wr){i:Nat}(hi:i<n):∃(ad:Addr) (B:oA9) (d:Nat),A=some ad/\ad.block<w.heap.size/\wr.cell? (ad.add i)=some (.slice B m d)/\zaL wr B m d (M.getD i []):=
 h.rows.get (zaq zas) hb hi (h.dims.row hi)
theorem zaH.place {w wr:World}{A:oA9}{n c m:Nat}{M:List (List Rat)}(h:zaH w A n c m M)(hb:Below w.heap.size w wr){i j:Nat}(hi:i<n)(hj:j<m):∃(ad:Addr) (B:oA9) (d:Nat),A=some ad/\ad.block<w.heap.size/\wr.cell? (ad.add i)=some (.slice B m d)/\
  ∃(ae:Addr) (b1:Bool) (B1:oA9) (m1 d1:Nat) (E1:oA9) (u1 v1:Nat),B=some ae/\ae.block<wr.heap.size/\wr.cell? (ae.add (j*3))=some (.bool b1)/\wr.cell? ⟨(ae.add (j*3)).block,(ae.add (j*3)).off+1,none⟩=some (.slice B1 m1 d1)/\wr.cell? ⟨(ae.add (j*3)).block,(ae.add (j*3)).off+2,none⟩=some (.slice E1 u1 v1)/\zak wr (atM M i j) b1 B1 m1 d1 E1 u1 v1:=by
 obtain⟨ad,B,d,e,h1,h2,h3⟩:=h.row hb hi;obtain⟨ae,b1,B1,m1,d1,E1,u1,v1,e4,h4,h5,h6,h7,h8⟩:=h3.get (Below.refl _ _) hj;exact⟨ad,B,d,e,h1,h2,ae,b1,B1,m1,d1,E1,u1,v1,e4,h4,h5,h6,h7,h8⟩
def zay (K:Nat)(M:List (List Rat)):Prop:=∀L ∈ M,zaI K L
theorem zay.up {K K':Nat}{M:List (List Rat)}(h:zay K M)(e:K<=K'):zay K' M:=λL hL=>(h L hL).up e
theorem zay.row {K i:Nat}{M:List (List Rat)}(h:zay K M)(hi:i<M.length):zaI K (M.getD i []):=h _ (List.mem_of_getElem? (zcd hi))
theorem zay.at_ {K n m i j:Nat}{M:List (List Rat)}(h:zay K M)(hd:zbG M n m)(hi:i<n)(hj:j<m):SzQ K (atM M i j):=by
 have hl:=hd.rows;have hr:=hd.row hi;exact(h.row (i:=i) om9).at_ om9
theorem zay.nil (K:Nat):zay K []:=λL hL=>by cases hL
theorem zay.tab {K n m:Nat}{f:Nat->Nat->Rat}(h:∀r c,r<n->c<m->SzQ K (f r c)):zay K (zbT n m f):=λL hL x hx=>by
 unfold zbT at hL;obtain⟨r,hr,rfl⟩:=List.mem_map.1 hL;obtain⟨c,hc,rfl⟩:=List.mem_map.1 hx;exact h r c (List.mem_range.1 hr) (List.mem_range.1 hc)
theorem zay.turn {K n m:Nat}{M:List (List Rat)}(h:zay K M)(hd:zbG M n m):zay K (zba n m M):=zay.tab λr c hr hc=>h.at_ hd hc hr
theorem zay.col {K n m c:Nat}{M:List (List Rat)}(h:zay K M)(hd:zbG M n m)(hc:c<m):zaI K (zcD n M c):=λx hx=>by
 unfold zcD at hx;obtain⟨r,hr,rfl⟩:=List.mem_map.1 hx;exact h.at_ hd (List.mem_range.1 hr) hc
theorem zay.mul {K K' n k m:Nat}{A B:List (List Rat)}(hA:zay K A)(hB:zay K' B)(dA:zbG A n k)(dB:zbG B k m):zay (1+k*(K+K'+1)) (zhG n k m A B):=zay.tab λr c hr hc=>by
 have hl:=dA.rows;exact dot_sz (dA.row hr) (zcE k B c) (hA.row om9) (hB.col dB hc)
def zbw (w:World)(n m:Nat)(M:List (List Rat))(e:Ending)(w':World):Prop:=∃(A:oA9) (c:Nat),e=.returned (.agg #[.slice A n c,.int .i64 (m:Int)])/\zaH w' A n c m M/\(∀ad,A=some ad->w.heap.size<=ad.block)/\Below w.heap.size w w'
def zbM (w:World)(n m:Nat)(M:List (List Rat))(e:Ending)(w':World):Prop:=∃(A:oA9) (c:Nat),e=.returned (.tuple #[.agg #[.slice A n c,.int .i64 (m:Int)],.bool true])/\zaH w' A n c m M/\(∀ad,A=some ad->w.heap.size<=ad.block)/\Below w.heap.size w w'
def zce (w:World)(e:Ending)(w':World):Prop:=e=.returned (.tuple #[.agg #[.slice none 0 0,.int .i64 0],.bool false])/\Below w.heap.size w w'
theorem gm2 {w W:World}{A B:oA9}{n c m g p q:Nat}{z:Int}{M:List (List Rat)}(h:zaH W A n c m M)(hf:∀ad,A=some ad->g<ad.block)(k:Blk W g 32 #[.slice B p q,.int .i64 z])(hB:Below w.heap.size w W)(hg:w.heap.size<=g):
  zbw w n m M (.returned (.agg #[.slice A n c,.int .i64 (m:Int)])) ((W.setCell ⟨g,0,none⟩ (.slice A n c)).setCell ⟨g,1,none⟩ (.int .i64 (m:Int))):=
 ⟨A,c,rfl,h.offz k _ _,λad e=>by have:=hf ad e;omega,bl2 _ _ hg hB⟩
theorem gmb2 {w W:World}{A B:oA9}{n c m g p q:Nat}{z:Int}{M:List (List Rat)}(h:zaH W A n c m M)(hf:∀ad,A=some ad->g<ad.block)(k:Blk W g 32 #[.slice B p q,.int .i64 z])(hB:Below w.heap.size w W)(hg:w.heap.size<=g):
  zbM w n m M (.returned (.tuple #[.agg #[.slice A n c,.int .i64 (m:Int)],.bool true])) ((W.setCell ⟨g,0,none⟩ (.slice A n c)).setCell ⟨g,1,none⟩ (.int .i64 (m:Int))):=
 ⟨A,c,rfl,h.offz k _ _,λad e=>by have:=hf ad e;omega,bl2 _ _ hg hB⟩
theorem gmn2 {w W:World}{g:Nat}(hB:Below w.heap.size w W)(hg:w.heap.size<=g):
  zce w (.returned (.tuple #[.agg #[.slice none 0 0,.int .i64 0],.bool false])) ((W.setCell ⟨g,0,none⟩ (.slice none 0 0)).setCell ⟨g,1,none⟩ (.int .i64 0)):=⟨rfl,bl2 _ _ hg hB⟩
theorem zbW (A:oA9)(n c:Nat)(z:Int)(w:World):Calls prog 29 #[.agg #[.slice A n c,.int .i64 z]] w (λe w'=>e=.returned (.int .i64 (n:Int))/\Below w.heap.size w w'):=by
 obtain⟨a,b,bz⟩:=zaD w 32 #[.slice A n c,.int .i64 z];obtain⟨g0,g1⟩:=b.c2;have HB:=lh9 a;clear a b bz;go_enter func29,ntmps29;go_wp2;go_ret;exact⟨rfl,HB.out⟩
theorem mat_cols (A:oA9)(n c:Nat)(z:Int)(w:World):Calls prog 34 #[.agg #[.slice A n c,.int .i64 z]] w (λe w'=>e=.returned (.int .i64 z)/\Below w.heap.size w w'):=by
 obtain⟨a,b,bz⟩:=zaD w 32 #[.slice A n c,.int .i64 z];obtain⟨g0,g1⟩:=b.c2;have HB:=lh9 a;clear a b bz;go_enter func34,ntmps34;go_wp2;go_ret;exact⟨rfl,HB.out⟩
def zfg (r c:Int):Bool:=decide (0<=r)&&decide (r<=64)&&decide (0<=c)&&decide (c<=64)
theorem zhf {n m:Nat}(hn:n<=64)(hm:m<=64):zfg (n:Int) (m:Int)=true:=by
 unfold zfg;rw [decide_eq_true (show(0:Int)<=(n:Int) by omega),decide_eq_true (show(n:Int)<=64 by omega),decide_eq_true (show(0:Int)<=(m:Int) by omega),decide_eq_true (show(m:Int)<=64 by omega)];rfl
theorem mat_may (r c:Int)(w:World):Calls prog 113 #[.int .i64 r,.int .i64 c] w (λe w'=>e=.returned (.bool (zfg r c))/\w=w'):=by
 by_cases h1:0<=r
 ·have d1:decide (0<=r)=true:=decide_eq_true h1;by_cases h2:r<=64
  ·have d2:decide (r<=64)=true:=decide_eq_true h2;by_cases h3:0<=c
   ·have d3:decide (0<=c)=true:=decide_eq_true h3;obtain⟨b,d4⟩:∃b,decide (c<=64)=b:=⟨_,rfl⟩;have e:zfg r c=b:=by unfold zfg;rw [d1,d2,d3,d4];rfl
    rw [e];clear h1 h2 h3 e;go_enter func113,ntmps113;go_wp2;go_ret;exact⟨rfl,rfl⟩
   ·have d3:decide (0<=c)=false:=decide_eq_false h3;have e:zfg r c=false:=by unfold zfg;rw [d1,d2,d3];rfl
    rw [e];clear h1 h2 h3 e;go_enter func113,ntmps113;go_wp2;go_ret;exact⟨rfl,rfl⟩
  ·have d2:decide (r<=64)=false:=decide_eq_false h2;have e:zfg r c=false:=by unfold zfg;rw [d1,d2];rfl
   rw [e];clear h1 h2 e;go_enter func113,ntmps113;go_wp2;go_ret;exact⟨rfl,rfl⟩
 ·have d1:decide (0<=r)=false:=decide_eq_false h1;have e:zfg r c=false:=by unfold zfg;rw [d1];rfl
  rw [e];clear h1 e;go_enter func113,ntmps113;go_wp2;go_ret;exact⟨rfl,rfl⟩
def inB (r:Int)(n:Nat):Bool:=decide (0<=r)&&decide (r<(n:Int))
theorem zhb {r:Int}{n:Nat}(h:inB r n=true):∃k:Nat,r=(k:Int)/\k<n:=by
 unfold inB at h;simp only [Bool.and_eq_true,decide_eq_true_eq] at h;exact⟨r.toNat,om9,om9⟩
theorem zfc {k n:Nat}(h:k<n):inB (k:Int) n=true:=by
 unfold inB;rw [decide_eq_true (show(0:Int)<=(k:Int) by omega),decide_eq_true (show(k:Int)<(n:Int) by omega)];rfl
theorem zow (A:oA9)(n c:Nat)(z r:Int)(w:World):Calls prog 95 #[.agg #[.slice A n c,.int .i64 z],.int .i64 r] w (λe w'=>e=.returned (.bool (inB r n))/\Below w.heap.size w w'):=by
 obtain⟨a,d,bz⟩:=zaD w 32 #[.slice A n c,.int .i64 z];obtain⟨g0,g1⟩:=d.c2;have HB:=lh9 a;clear a d bz;by_cases h1:0<=r
 ·have d1:decide (0<=r)=true:=decide_eq_true h1;obtain⟨b,d4⟩:∃b,decide (r<(n:Int))=b:=⟨_,rfl⟩;have e:inB r n=b:=by unfold inB;rw [d1,d4];rfl
  rw [e];clear h1 e;have H:=λW=>lh9 (zbW A n c z W);go_enter func95,ntmps95;go_wp2_with fail;refine(H _).out.mono ?_;rintro e w1 ⟨rfl,hb⟩;have f:=lh9 (zac HB.out hb);clear hb;go_wp2;go_ret;exact⟨rfl,f.out⟩
 ·have d1:decide (0<=r)=false:=decide_eq_false h1;have e:inB r n=false:=by unfold inB;rw [d1];rfl
  rw [e];clear h1 e;go_enter func95,ntmps95;go_wp2;go_ret;exact⟨rfl,HB.out⟩
theorem zjd (A:oA9)(n c m:Nat)(r:Int)(w:World):Calls prog 105 #[.agg #[.slice A n c,.int .i64 (m:Int)],.int .i64 r] w (λe w'=>e=.returned (.bool (inB r m))/\Below w.heap.size w w'):=by
 obtain⟨a,d,bz⟩:=zaD w 32 #[.slice A n c,.int .i64 (m:Int)];obtain⟨g0,g1⟩:=d.c2;have HB:=lh9 a;clear a d bz;by_cases h1:0<=r
 ·have d1:decide (0<=r)=true:=decide_eq_true h1;obtain⟨b,d4⟩:∃b,decide (r<(m:Int))=b:=⟨_,rfl⟩;have e:inB r m=b:=by unfold inB;rw [d1,d4];rfl
  rw [e];clear h1 e;go_enter func105,ntmps105;go_wp2;go_ret;exact⟨rfl,HB.out⟩
 ·have d1:decide (0<=r)=false:=decide_eq_false h1;have e:inB r m=false:=by unfold inB;rw [d1];rfl
  rw [e];clear h1 e;go_enter func105,ntmps105;go_wp2;go_ret;exact⟨rfl,HB.out⟩
