/- What this claim leans on. -/
import Derived.Test.YtghpdeciaaagnaaGreatDoorQUArgs2
import Derived.ArgAppend
import Derived.Laws.Concat
import Derived.Laws.IdiomCopy
namespace Go.Proofs.YtghpdeciaaagnaaGreatDoor
open Go Go.RowKit Go.Proofs.Tryz
set_option maxHeartbeats 16000000
def zai (w:World):Prop:=∀j,j<Lib.deBruijn64tab.length->w.cell? ⟨0,j,none⟩=some (.int .u8 (Lib.deBruijn64tab.getD j 0:Nat))
theorem zai.below {B:Nat}{w w':World}(h:zai w)(hb:Below B w w')(hB:0<B):zai w':=λj hj=>(hb.cell (p:=⟨0,j,none⟩) hB).trans (h j hj)
theorem zai.drewN {w:World}(h:zai w)(n:Nat):zai (w.drewN n):=h
theorem zai.on {w w':World}(h:zai w)(hb:Below w.heap.size w w'):zai w':=h.below hb (by
 have:=h 0 de9;exact World.block_lt_of_cell? w _ this)
theorem tz_key (x a:Nat)(hx:x<18446744073709551616)(hx0:x≠0)(b:x&&&(18446744073709551616 - x)=a):
  IntKind.u64.wrap (bits BinOp.and IntKind.u64 (x:Int) (IntKind.u64.wrap (-(x:Int)))*285870213051353865) / 288230376151711744=((a*285870213051353865%18446744073709551616 / 288230376151711744:Nat):Int):=by
 have e1:IntKind.u64.wrap (-(x:Int))=((18446744073709551616 - x:Nat):Int):=by rw [IntKind.wrap_u64];omega
 rw [e1,bits_and_u64_nat x _ hx om9,b,IntKind.wrap_u64];omega
theorem zlX (x k a:Nat)(w:World)(hx0:((x:Int)==0)=false)
  (b:IntKind.u64.wrap (bits BinOp.and IntKind.u64 (x:Int) (IntKind.u64.wrap (-(x:Int)))*285870213051353865) / 288230376151711744=(a:Int))
  (hi:a<64) (hk:k<64) (hcell:w.cell? ⟨0,a,none⟩=some (.int .u8 k)):
  Calls prog 224 #[.int .u64 x] w λe w'=>e=.returned (.int .i64 k)/\w=w':=by
 go_enter func224,ntmps224;go_wp2_with (simp only [b]);go_ret;exact⟨rfl,rfl⟩
theorem zlY (w:World):
  Calls prog 224 #[.int .u64 0] w λe w'=>e=.returned (.int .i64 64)/\w=w':=by
 go_enter func224,ntmps224;go_wp2;go_ret;exact⟨rfl,rfl⟩
theorem zpU (x:Int)(hx:Wd x)(w:World)(hT:zai w):
  Calls prog 224 #[.int .u64 x] w λe w'=>e=.returned (.int .i64 (zgX x))/\w=w':=by
 obtain⟨h0,h1⟩:=hx;obtain⟨x,rfl⟩:=Int.eq_ofNat_of_zero_le h0;have hN:x<18446744073709551616:=om9;unfold zgX;rw [Int.toNat_natCast];by_cases hx0:x=0
 ·subst hx0;exact zlY w
 ·obtain⟨b,hk⟩:=Lib.lowest_bit 64 x hx0 hN;obtain⟨hi,c⟩:=Lib.deBruijn64_at _ hk;have a:=hT _ hi;rw [c] at a;exact zlX x _ _ w (by simp;omega) (tz_key x _ hN hx0 b) hi hk a
theorem zpi (x:Int)(hx:Wd x)(w:World)(hT:zai w):
  Calls prog 214 #[.int .u64 x] w λe w'=>e=.returned (.int .i64 (zgX x))/\w=w':=by
 have H:=lh9 (zpU x hx w hT);clear hT;go_enter func214,ntmps214;go_wp2_with (go_at_call 224;refine H.out.mono ?_;rintro e w' ⟨rfl,rfl⟩);go_ret;exact⟨rfl,rfl⟩
set_option linter.unusedVariables false
def zav (k:Nat)(f:Nat->Rat):Rat:=zdO ((List.range k).map f)
theorem zeX (f:Nat->Rat):zav 0 f=0:=rfl
theorem zpa (rs:List Rat)(r:Rat):zdO (rs++[r])=zdO rs+r:=by
 unfold zdO;rw [List.foldl_append];rfl
theorem zaD (k:Nat)(f:Nat->Rat):zav (k+1) f=zav k f+f k:=by
 unfold zav;rw [List.range_succ,List.map_append,List.map_cons,List.map_nil,zpa]
theorem zal {k:Nat}{f g:Nat->Rat}(h:∀i,i<k->f i=g i):zav k f=zav k g:=by
 unfold zav;congr 1;exact List.map_congr_left λi hi=>h i (List.mem_range.1 hi)
theorem zbq {k:Nat}{f:Nat->Rat}(h:∀i,i<k->f i=0):zav k f=0:=by
 induction k with
 |zero=>rfl
 |succ k ih=>rw [zaD,ih (λi hi=>h i om9),h k om9,Rat.add_zero]
theorem znQ (a b c d:Rat):(a+b)+(c+d)=(a+c)+(b+d):=by
 rw [Rat.add_assoc,Rat.add_assoc,<-Rat.add_assoc b c d,<-Rat.add_assoc c b d,Rat.add_comm b c]
theorem zcj (k:Nat)(f g:Nat->Rat):zav k (λi=>f i+g i)=zav k f+zav k g:=by
 induction k with
 |zero=>exact(Rat.add_zero 0).symm
 |succ k ih=>rw [zaD,zaD,zaD,ih,znQ]
theorem zaZ (k:Nat)(a:Rat)(f:Nat->Rat):a*zav k f=zav k (λi=>a*f i):=by
 induction k with
 |zero=>exact Rat.mul_zero a
 |succ k ih=>rw [zaD,zaD,Rat.mul_add,ih]
theorem zrl (k:Nat)(a:Rat)(f:Nat->Rat):zav k f*a=zav k (λi=>f i*a):=by
 induction k with
 |zero=>exact Rat.zero_mul a
 |succ k ih=>rw [zaD,zaD,Rat.add_mul,ih]
theorem zic (n k:Nat)(f:Nat->Nat->Rat):zav n (λi=>zav k (λj=>f i j))=zav k (λj=>zav n (λi=>f i j)):=by
 induction n with
 |zero=>exact(zbq λi _=>rfl).symm
 |succ n ih=>
   rw [zaD,ih,<-zcj];exact zal λj _=>(zaD n λi=>f i j).symm
theorem zrm {k c:Nat}(hc:c<k)(f:Nat->Rat):zav k (λi=>f i*(if i=c then 1 else 0))=f c:=by
 induction k with
 |zero=>omega
 |succ k ih=>
   rw [zaD];by_cases h:c=k
   ·subst h;rw [if_pos rfl,Rat.mul_one,zbq λi hi=>by rw [if_neg om9,Rat.mul_zero],Rat.zero_add]
   ·rw [if_neg om9,Rat.mul_zero,Rat.add_zero,ih om9]
theorem zkr:∀{k:Nat} {xs ys:List Rat},xs.length=k->ys.length=k->zdY xs ys=zav k λi=>xs.getD i 0*ys.getD i 0
 |k,xs,ys,hx,hy=>by
   unfold zdY zav;congr 1;apply List.ext_getElem
   ·simp [hx,hy]
   ·intro i h1 h2;have h3:i<k:=by simpa using h2
    rw [List.getElem_zipWith,List.getElem_map,List.getElem_range,List.getD_eq_getElem?_getD,List.getD_eq_getElem?_getD,List.getElem?_eq_getElem om9,List.getElem?_eq_getElem om9];rfl
def zbz (n m:Nat)(f:Nat->Nat->Rat):List (List Rat):=(List.range n).map λr=>(List.range m).map (f r)
def atM (M:List (List Rat))(r c:Nat):Rat:=(M.getD r []).getD c 0
structure zaY (M:List (List Rat))(n m:Nat):Prop where
 rows:M.length=n
 cols:∀L ∈ M,L.length=m
theorem zaY.row {M:List (List Rat)}{n m:Nat}(h:zaY M n m){r:Nat}(hr:r<n):(M.getD r []).length=m:=by
 have hl:=h.rows;rw [List.getD_eq_getElem?_getD,List.getElem?_eq_getElem om9];exact h.cols _ (List.getElem_mem _)
theorem zbW (n m:Nat)(f:Nat->Nat->Rat):zaY (zbz n m f) n m:=⟨by simp [zbz],λL hL=>by
 obtain⟨r,_,rfl⟩:=List.mem_map.1 hL;simp⟩
theorem tabN_row {n m:Nat}{f:Nat->Nat->Rat}{r:Nat}(hr:r<n):(zbz n m f).getD r []=(List.range m).map (f r):=by
 unfold zbz;rw [List.getD_eq_getElem?_getD,List.getElem?_map,List.getElem?_range hr];rfl
theorem zjJ {m c:Nat}{f:Nat->Rat}(hc:c<m):((List.range m).map f).getD c 0=f c:=by
 rw [List.getD_eq_getElem?_getD,List.getElem?_map,List.getElem?_range hc];rfl
theorem zcW {n m:Nat}{f:Nat->Nat->Rat}{r c:Nat}(hr:r<n)(hc:c<m):atM (zbz n m f) r c=f r c:=by
 unfold atM;rw [tabN_row hr,zjJ hc]
theorem zoO {m:Nat}{xs:List Rat}(h:xs.length=m):(List.range m).map (λc=>xs.getD c 0)=xs:=by
 subst h;apply List.ext_getElem
 ·simp
 ·intro i h1 h2;rw [List.getElem_map,List.getElem_range,List.getD_eq_getElem?_getD,List.getElem?_eq_getElem h2];rfl
theorem zaY.eq {M:List (List Rat)}{n m:Nat}(h:zaY M n m):zbz n m (atM M)=M:=by
 have hl:=h.rows;unfold zbz;apply List.ext_getElem
 ·simp [hl]
 ·intro i h1 h2;rw [List.getElem_map,List.getElem_range];have e:M.getD i []=M[i]:=by rw [List.getD_eq_getElem?_getD,List.getElem?_eq_getElem h2];rfl
  show(List.range m).map (λc=>(M.getD i []).getD c 0)=M[i];rw [e];exact zoO (h.cols _ (List.getElem_mem h2))
def zhh (n:Nat)(M:List (List Rat))(c:Nat):List Rat:=(List.range n).map λr=>atM M r c
theorem zhi (n:Nat)(M:List (List Rat))(c:Nat):(zhh n M c).length=n:=by simp [zhh]
theorem colM_at {n:Nat}{M:List (List Rat)}{c r:Nat}(hr:r<n):(zhh n M c).getD r 0=atM M r c:=zjJ hr
def zeC (n m:Nat)(M:List (List Rat)):List (List Rat):=zbz m n λr c=>atM M c r
def zhV (n k m:Nat)(A B:List (List Rat)):List (List Rat):=zbz n m λr c=>zdY (A.getD r []) (zhh k B c)
theorem zkC (n k m:Nat)(A B:List (List Rat)):zaY (zhV n k m A B) n m:=zbW _ _ _
theorem mulM_at {n k m:Nat}{A B:List (List Rat)}(hA:zaY A n k){r c:Nat}(hr:r<n)(hc:c<m):atM (zhV n k m A B) r c=zav k λi=>atM A r i*atM B i c:=by
 unfold zhV;rw [zcW hr hc,zkr (hA.row hr) (zhi k B c)];exact zal λi hi=>by rw [colM_at hi];rfl
def oneM (n:Nat):List (List Rat):=zbz n n λr c=>if r=c then 1 else 0
theorem zrt (n m:Nat)(M:List (List Rat)):zaY (zeC n m M) m n:=zbW _ _ _
def byM (n m:Nat)(v:List Rat)(M:List (List Rat)):List Rat:=(List.range m).map λc=>zdY v (zhh n M c)
def zdw (M:List (List Rat))(v:List Rat):List Rat:=M.map λL=>zdY L v
theorem zkp:∀(xs ys:List Rat),zdY xs ys=zdY ys xs
 |[],[]=>rfl
 |[],_::_=>rfl
 |_::_,[]=>rfl
 |x::xs,y::ys=>by rw [zkq,zkq,zkp xs ys,Rat.mul_comm]
theorem zpf {n m:Nat}{M:List (List Rat)}{v:List Rat}:zdw (zeC n m M) v=byM n m v M:=by
 unfold zdw byM zeC zbz;rw [List.map_map];exact List.map_congr_left λc _=>zkp _ _
theorem zmt (m:Nat):zaY [] 0 m:=⟨rfl,λL hL=>by cases hL⟩
theorem zcu {P:Program}{f:FuncId}{args:Array Value}{w:World}{z v:Int}(e:z=v)(h:Calls P f args w (zcL w z)):Calls P f args w λe w'=>e=.returned (.int .i64 v)/\Below w.heap.size w w':=by
 subst e;exact h
theorem zaB {P:Program}{f:FuncId}{args:Array Value}{w:World}{b t:Bool}(e:b=t)(h:Calls P f args w λe w'=>e=.returned (.bool b)/\Below w.heap.size w w'):Calls P f args w λe w'=>e=.returned (.bool t)/\Below w.heap.size w w':=by
 subst e;exact h
theorem inew_pos {T:World->Prop}(IC:IntC T)(x:Nat)(A:oA9)(n c:Nat)(w:World)(hT:T w)(h:zad w x A n c)(hn:n<=268435456):Calls prog 163 #[.bool false,.agg #[.slice A n c]] w (zbh w (x:Int)):=
 IC.new false x A n c w hT h hn
set_option linter.unusedSimpArgs false
def zgM (u:Value):Prop:=∀k z,u≠.int k z
def zbD (w:World)(v:Value):Prop:=∀g,v.ownBlock=some g->∃(cur:Array Value) (e:TypeId),w.heap[g]?=some (.cells cur e (0,0))/\∀u ∈ cur.toList,zgM u
theorem zbD.nil (w:World)(c:Nat):zbD w (.slice none 0 c):=λg h=>by simp [Value.ownBlock] at h
theorem zbD.block {w w':World}{v:Value}(h:zbD w v)(hg:∀g,v.ownBlock=some g->w'.heap[g]?=w.heap[g]?):zbD w' v:=λg e=>by
 obtain⟨a,t,h1,h2⟩:=h g e;exact⟨a,t,(hg g e).trans h1,h2⟩
theorem zbD.below {w w':World}{v:Value}(h:zbD w v)(hb:Below w.heap.size w w'):zbD w' v:=λg e=>by
 obtain⟨a,t,h1,h2⟩:=h g e;exact⟨a,t,(hb.block g (Array.getElem?_eq_some_iff.1 h1).1).trans h1,h2⟩
theorem zka {z:Array Value}{k:Nat}{u:Value}(hz:0<z.size)(hu:u ∈(Builtin.zeroCells z k).toList):u ∈ z.toList:=by
 unfold Builtin.zeroCells at hu;rw [Array.mem_toList_iff,Array.mem_map] at hu;obtain⟨i,_,rfl⟩:=hu;have a:i%z.size<z.size:=Nat.mod_lt _ hz;rw [getElem!_pos z (i%z.size) a,Array.mem_toList_iff];exact Array.getElem_mem a
section
variable {P:Program}(w:World)
theorem zgc (h:Nat)(t ty e:TypeId)(i:TypeInfo)(z:Value)(size bytes:Nat)(ht:P.underlying t=some (.slice e))(hi:P.info? e=some i)(hz:i.zero=some z)
  (F:i.size=size) (M:i.bytes=bytes) (Q:z.cells.size=size) (hsz:0<size)
  (v:Value) (n:Nat) (xs:List Value) (f:w.ownsRow h e size v n xs)
  (a:Addr) (m c:Nat) (b:List Value) (hl:b.length=m*size) (r:∀j u,b[j]?=some u->w.cell? (a.add j)=some u) (h1:∀u ∈ b,u.oneCell'=true)
  (H:n+m<=maxLen) (s:(n+m)*bytes<=140737488355328) (B:h<=w.heap.size)
  (hv:zbD w v) (O:∀u ∈ z.cells.toList,zgM u) (L:∀u ∈ b,zgM u):
  ∃ v' w',(Builtin.append_ #[t,t] ty #[v,.slice (some a) m c]).run P w = .ok v' w' ∧ w'.ownsRow h e size v' (n + m) (xs ++ b) ∧ w.grownBy w' v.ownBlock ∧
   (v'.ownBlock=v.ownBlock\/v'.ownBlock=some w.heap.size)/\zbD w' v':=by
 subst F;subst M;have hsmall:n+m<=9223372036854775807:=by simp only [maxLen] at H;omega
 have y:(xs++b).length=(n+m)*i.size:=by rw [List.length_append,f.1,hl,Nat.add_mul]
 have grown : ∀ (d : Nat),d < n + m → (∀ u ∈ xs,zgM u) → ∀ (row : Option Nat),
   (w.drew.alloc (.cells (xs.toArray ++ b.toArray ++ Builtin.zeroCells z.cells (grownCap w (n + m) d e - (n + m))) e)).ownsRow h e i.size
     (.slice (some ⟨w.heap.size,0,none⟩) (n+m) (grownCap w (n+m) d e)) (n+m) (xs++b)/\
   w.grownBy (w.drew.alloc (.cells (xs.toArray++b.toArray++Builtin.zeroCells z.cells (grownCap w (n+m) d e - (n+m))) e)) row/\
   zbD (w.drew.alloc (.cells (xs.toArray++b.toArray++Builtin.zeroCells z.cells (grownCap w (n+m) d e - (n+m))) e)) (.slice (some ⟨w.heap.size,0,none⟩) (n+m) (grownCap w (n+m) d e)):=by
  intro d ho G row;have N:=grownCap_ge w (n+m) d e;have C:grownCap w (n+m) d e<=maxLen:=grownCap_le_maxLen w (n+m) d e H;refine⟨⟨y,.inr ⟨w.heap.size,_,_,rfl,B,heap_alloc_new w.drew _,N,C,?_,?_⟩⟩,⟨rfl,rfl,rfl,si9,λk hk _=>heap_alloc_old w.drew _ hk⟩,?_⟩
  ·simp only [Array.size_append,List.size_toArray,size_zeroCells,Q,f.1,hl,<-Nat.add_mul];congr 1;omega
  ·simp only [Array.toList_append,List.append_assoc];rw [<-List.append_assoc,<-y];exact List.take_left
  ·intro g hg;simp [Value.ownBlock] at hg;subst hg;refine⟨_,_,heap_alloc_new w.drew _,λu hu=>?_⟩;simp only [Array.toList_append,List.mem_append] at hu;rcases hu with(hu|hu)|hu
   ·exact G u hu
   ·exact L u hu
   ·exact O u (zka om9 hu)
 rcases f.2 with⟨rfl,rfl⟩|⟨g,cap,cur,rfl,hbg,hg,hnc,C,hcs,htake⟩
 ·have hx:xs=[]:=List.eq_nil_of_length_eq_zero (by simpa using f.1);subst hx;by_cases hm:m=0
  ·subst hm;have hn:b=[]:=List.eq_nil_of_length_eq_zero (by simpa using hl);subst hn;refine⟨.slice none 0 0,w,?_,World.ownsRow_nil w h e i.size,⟨rfl,rfl,rfl,Nat.le_refl _,λ_ _ _=>rfl⟩,Or.inl rfl,zbD.nil _ _⟩;simp [Builtin.append_,run_underlying ht,sizeOf,typeInfo,hi,Builtin.lenOf,Builtin.firstCells,loadCells,loadCellsFrom]
  ·have hr:=run_append_nil (P:=P) w t ty e i z ht hi hz a m c b hl r om9 om9 (by have hb:=s;simp only [Nat.zero_add] at hb;omega);have o:=grown 0 om9 (λu hu=>by cases hu) (Value.ownBlock (.slice none 0 0));simp only [Nat.zero_add,List.nil_append,Array.empty_append] at o⊢;exact⟨_,_,hr,o.1,o.2.1,Or.inr rfl,o.2.2⟩
 ·obtain⟨l,e2,A,D⟩:=hv g rfl;have I:l=cur:=by
   rw [hg] at A;injection A with A;injection A with A;exact A.symm
  subst I;by_cases hroom:n+m<=cap
  ·have J:n*i.size+b.length<=l.size:=by rw [hl,hcs,<-Nat.add_mul];exact Nat.mul_le_mul_right _ hroom
   have hr:=run_append_room (P:=P) w t ty e i ht hi g n cap l hg a m c b hl r h1 hroom J;refine⟨_,_,hr,⟨y,.inr ⟨g,cap,_,rfl,hbg,setRow_heap w g l _ e _ hg,hroom,C,?_,?_⟩⟩,⟨rfl,rfl,rfl,si9,λk _ hk=>setRow_other w g k _ (λe=>hk (by simp [Value.ownBlock,e]))⟩,Or.inl rfl,?_⟩
   ·simp only [List.size_toArray,List.length_append,List.length_take,List.length_drop,Array.length_toList];omega
   ·rw [htake,<-y];exact List.take_left
   ·intro g' K;simp [Value.ownBlock] at K;subst K;refine⟨_,_,setRow_heap w g l _ e _ hg,λu hu=>?_⟩;rw [List.mem_append,List.mem_append] at hu;rcases hu with(hu|hu)|hu
    ·exact D u (List.mem_of_mem_take hu)
    ·exact L u hu
    ·exact D u (List.mem_of_mem_drop hu)
  ·have E:∀j u,xs[j]?=some u->w.cell? ((⟨g,0,none⟩:Addr).add j)=some u:=f.cells (g:=g) rfl;have hr:=run_append_grow (P:=P) w t ty e i z ht hi hz ⟨g,0,none⟩ n cap xs f.1 E a m c b hl r om9 om9 (growslice_fits om9 s);have G:∀u ∈ xs,zgM u:=λu hu=>D u (List.mem_of_mem_take (by rw [htake];exact hu));have o:=grown cap om9 G (Value.ownBlock (.slice (some ⟨g,0,none⟩) n cap));exact⟨_,_,hr,o.1,o.2.1,Or.inr rfl,o.2.2⟩
theorem zhI {y:Array Oper}{rest:List Oper}{o:Oper}{a:Act}{Q:Exit->Act->World->Prop}(C:o.guard=none)(s x:Operand)(t:TypeId)
  (ho:o.op=.call {callee:=.builtin .append,args:=#[s,x],argTypes:=#[t,t]})
  (d:Nat) (e:TypeId) (i:TypeInfo) (z:Value) (size bytes:Nat) (ht:P.underlying t=some (.slice e)) (hi:P.info? e=some i) (hz:i.zero=some z)
  (l:i.size=size) (B:i.bytes=bytes) (F:z.cells.size=size) (hsz:0<size)
  (v:Value) (n:Nat) (xs:List Value) (hs:a.eval s=v) (r:w.ownsRow d e size v n xs)
  (ad:Addr) (m c:Nat) (b:List Value) (hx:a.eval x=.slice (some ad) m c) (hl:b.length=m*size) (k:∀j u,b[j]?=some u->w.cell? (ad.add j)=some u) (h1:∀u ∈ b,u.oneCell'=true)
  (A:n+m<=maxLen) (f:(n+m)*bytes<=140737488355328) (g:d<=w.heap.size)
  (hv:zbD w v) (E:∀u ∈ z.cells.toList,zgM u) (D:∀u ∈ b,zgM u)
  (h:∀v' w',w'.ownsRow d e size v' (n+m) (xs++b)->w.grownBy w' v.ownBlock->(v'.ownBlock=v.ownBlock\/v'.ownBlock=some w.heap.size)->zbD w' v'->wpList P y Q rest (a.put o.dst v') w'):
  wpList P y Q (o::rest) a w:=by
 refine wpList_plain C λK hK=>?_;obtain⟨v',w',hr,h2,h3,h4,h5⟩:=zgc (P:=P) w d t o.type e i z size bytes ht hi hz l B F hsz v n xs r ad m c b hl k h1 A f g hv E D;unfold Oper.wp execOp;simp only [ho,resolve,invoke,builtin,Sem.run_bind,Sem.run_pure,Result.andThen_ok,List.map_toArray,List.map_cons,List.map_nil,hs,hx,hr];exact hK _ _ (h v' w' h2 h3 h4 h5)
end
theorem zbD.blk {w:World}{v:Value}{g:Nat}(h:zbD w v)(hg:v.ownBlock=some g):∃(t:TypeId) (cs:Array Value),Blk w g t cs/\NoU cs:=by
 obtain⟨a,e,h1,h2⟩:=h g hg;exact⟨e,a,h1,λu hu k z=>h2 u hu k z⟩
theorem zco.grown {α:Type}{E:El α}(hE:zco E){w w':World}{v:Value}{x:α}{b:Bool}{A:oA9}{n c:Nat}{F:oA9}{k f:Nat}(h:E w x b A n c F k f)(hg:w.grownBy w' v.ownBlock)(hn:zbD w v):E w' x b A n c F k f:=by
 cases hv:v.ownBlock with
 |none=>rw [hv] at hg;exact hE.below h (zaX hg)
 |some g=>
   rw [hv] at hg;obtain⟨t,cs,hk,hc⟩:=hn.blk hv;exact hE.offg h hk hc (zaV.of_grown hg)
theorem zbr {w w':World}{g:Nat}{t:TypeId}{cs:Array Value}{row:Option Nat}(h:Blk w g t cs)(hg:w.grownBy w' row)(a:row≠some g):Blk w' g t cs:=(hg.block g (Blk.lt h) (λe=>a e.symm)).trans h
structure zcc {α:Type}(E:El α)(w:World)(base:Nat)(t:TypeId)(v:Value)(xs:List α)(vs:List Value):Prop where
 own:w.ownsRow base t 3 v xs.length vs
 nou:zbD w v
 num:∀i x,xs[i]?=some x->∃(b:Bool) (B:oA9) (m d:Nat) (F:oA9) (u f:Nat),vs[i*3]?=some (.bool b)/\vs[i*3+1]?=some (.slice B m d)/\vs[i*3+2]?=some (.slice F u f)/\E w x b B m d F u f
section
variable {α:Type}{E:El α}
theorem zcc.nil (w:World)(a:Nat)(t:TypeId):zcc E w a t (.slice none 0 0) [] []:=⟨World.ownsRow_nil _ _ _ _,zbD.nil _ _,λi x hi=>by simp at hi⟩
theorem zcc.len {w:World}{a:Nat}{t:TypeId}{v:Value}{xs:List α}{vs:List Value}(h:zcc E w a t v xs vs):vs.length=xs.length*3:=h.own.1
theorem zcc.shape {w:World}{j:Nat}{t:TypeId}{v:Value}{xs:List α}{vs:List Value}(h:zcc E w j t v xs vs):∃A c,v=.slice A xs.length c/\zaM E w A xs.length c xs/\∀ad,A=some ad->j<=ad.block:=by
 rcases h.own.2 with⟨rfl,h0⟩|⟨g,cap,cur,rfl,hbg,hg,hnc,hcm,hcs,htake⟩
 ·have hx:xs=[]:=List.eq_nil_of_length_eq_zero h0;subst hx;exact⟨none,0,rfl,zaM.nil w,λad e=>by cases e⟩
 ·have a:=h.own.cells (g:=g) rfl;refine⟨some ⟨g,0,none⟩,cap,rfl,⟨rfl,hnc,by unfold maxLen at hcm;omega,λi x hi=>?_⟩,λad e=>by injection e with e;subst e;exact hbg⟩;obtain⟨b,B,m,d,F,u,f,h1,h2,h3,h4⟩:=h.num i x hi;exact⟨_,b,B,m,d,F,u,f,rfl,(Array.getElem?_eq_some_iff.1 hg).1,a _ _ h1,a _ _ h2,a _ _ h3,h4⟩
theorem zcc.below (hE:zco E){w w':World}{a:Nat}{t:TypeId}{v:Value}{xs:List α}{vs:List Value}(h:zcc E w a t v xs vs)(hb:Below w.heap.size w w'):zcc E w' a t v xs vs:=by
 refine⟨⟨h.own.1,?_⟩,h.nou.below hb,λi x hi=>?_⟩
 ·rcases h.own.2 with h1|⟨g,cap,cur,e1,e2,e3,e4⟩
  ·exact .inl h1
  ·exact .inr ⟨g,cap,cur,e1,e2,(hb.block g (Blk.lt (t:=t) (cs:=cur) e3)).trans e3,e4⟩
 ·obtain⟨b,B,m,d,F,u,f,h1,h2,h3,h4⟩:=h.num i x hi;exact⟨b,B,m,d,F,u,f,h1,h2,h3,hE.below h4 hb⟩
theorem zcc.grow (hE:zco E){w w':World}{a n:Nat}{t:TypeId}{v v':Value}{xs:List α}{vs:List Value}{x:α}{b:Bool}{B F:oA9}{m d u f:Nat}(h:zcc E w a t v xs vs)(hx:E w x b B m d F u f)
  (ho:w'.ownsRow a t 3 v' n (vs++[.bool b,.slice B m d,.slice F u f])) (hn:n=xs.length+1) (hg:w.grownBy w' v.ownBlock) (g:zbD w' v'):zcc E w' a t v' (xs++[x]) (vs++[.bool b,.slice B m d,.slice F u f]):=by
 have hl:=h.len;refine⟨by rw [List.length_append,List.length_singleton,<-hn];exact ho,g,λi y hi=>?_⟩;by_cases hlt:i<xs.length
 ·rw [List.getElem?_append_left hlt] at hi;obtain⟨b1,B1,m1,d1,F1,u1,f1,h1,h2,h3,h4⟩:=h.num i y hi;exact⟨b1,B1,m1,d1,F1,u1,f1,by rw [List.getElem?_append_left om9];exact h1,by rw [List.getElem?_append_left om9];exact h2,by rw [List.getElem?_append_left om9];exact h3,hE.grown h4 hg h.nou⟩
 ·rw [List.getElem?_append_right om9] at hi;have c:i=xs.length:=by
   have:=(List.getElem?_eq_some_iff.1 hi).1;simp at this;omega
  subst c;obtain rfl:x=y:=by
   rw [Nat.sub_self] at hi;injection hi
  exact⟨b,B,m,d,F,u,f,by rw [List.getElem?_append_right om9,hl,Nat.sub_self];rfl,by rw [List.getElem?_append_right om9,hl,Nat.add_sub_cancel_left];rfl,by rw [List.getElem?_append_right om9,hl,Nat.add_sub_cancel_left];rfl,hE.grown hx hg h.nou⟩
end
theorem zgI {P:Program}(w:World){o:Oper}{a:Act}{K:Act->World->Prop}{Q:Exit->Act->World->Prop}(s x:Operand)(t:TypeId)
  (ho:o.op=.call {callee:=.builtin .append,args:=#[s,x],argTypes:=#[t,t]})
  (d:Nat) (e:TypeId) (i:TypeInfo) (z:Value) (size bytes:Nat) (ht:P.underlying t=some (.slice e)) (hi:P.info? e=some i) (hz:i.zero=some z)
  (l:i.size=size) (A:i.bytes=bytes) (D:z.cells.size=size) (hsz:0<size)
  (v:Value) (n:Nat) (xs:List Value) (hs:a.eval s=v) (r:w.ownsRow d e size v n xs)
  (ad:Addr) (m c:Nat) (b:List Value) (hx:a.eval x=.slice (some ad) m c) (hl:b.length=m*size) (k:∀j u,b[j]?=some u->w.cell? (ad.add j)=some u) (h1:∀u ∈ b,u.oneCell'=true)
  (y:n+m<=maxLen) (f:(n+m)*bytes<=140737488355328) (g:d<=w.heap.size)
  (hv:zbD w v) (C:∀u ∈ z.cells.toList,zgM u) (B:∀u ∈ b,zgM u)
  (h:∀v' w',w'.ownsRow d e size v' (n+m) (xs++b)->w.grownBy w' v.ownBlock->(v'.ownBlock=v.ownBlock\/v'.ownBlock=some w.heap.size)->zbD w' v'->K (a.put o.dst v') w'):Oper.wp P o a w K Q:=by
 obtain⟨v',w',hr,h2,h3,h4,h5⟩:=zgc (P:=P) w d t o.type e i z size bytes ht hi hz l A D hsz v n xs r ad m c b hl k h1 y f g hv C B;unfold Oper.wp execOp;simp only [ho,resolve,invoke,builtin,Sem.run_bind,Sem.run_pure,Result.andThen_ok,List.map_toArray,List.map_cons,List.map_nil,hs,hx,hr];exact h v' w' h2 h3 h4 h5
theorem zju {w:World}{g:Nat}{t:TypeId}{b:Bool}{B F:oA9}{m d u f:Nat}(h:Blk w g t #[.bool b,.slice B m d,.slice F u f]):∀j v,[Value.bool b,.slice B m d,.slice F u f][j]?=some v->w.cell? ((⟨g,0,none⟩:Addr).add j)=some v:=λj v hv=>by
 rw [zar]
 match j,hv with
 |0,hv=>simp at hv;subst hv;exact h.cell 0
 |1,hv=>simp at hv;subst hv;exact h.cell 1
 |2,hv=>simp at hv;subst hv;exact h.cell 2
theorem zmQ (b:Bool)(B F:oA9)(m d u f:Nat):∀v ∈ [Value.bool b,.slice B m d,.slice F u f],v.oneCell'=true:=by intro v hv;simp at hv;rcases hv with rfl|rfl|rfl<;>rfl
theorem zmP (b:Bool)(B F:oA9)(m d u f:Nat):∀v ∈ [Value.bool b,.slice B m d,.slice F u f],zgM v:=by intro v hv y z;simp at hv;rcases hv with rfl|rfl|rfl<;>(intro h9;cases h9)
theorem zlh:∀u ∈(Value.agg #[.bool false,.slice none 0 0,.slice none 0 0]).cells.toList,zgM u:=by intro u hu y z;simp [Value.cells] at hu;rcases hu with rfl|rfl<;>(intro h9;cases h9)
set_option maxRecDepth 100000
def RefQ (w:World)(r:Rat)(b:Bool)(A:oA9)(n c:Nat)(E:oA9)(k f:Nat):Prop:=RefIn w r.num b A n c/\zdB w r.den E k f
theorem RefQ.below {w w':World}{r:Rat}{b:Bool}{A:oA9}{n c:Nat}{E:oA9}{k f:Nat}(h:RefQ w r b A n c E k f)(hb:Below w.heap.size w w'):RefQ w' r b A n c E k f:=⟨h.1.below hb,h.2.below hb⟩
section
variable {w:World}
def idxZ (c:Nat)(Ls:List (List Rat)):Int:=if Ls.findIdx (λrow=> !decide (row.getD c 0=0))<Ls.length then((Ls.findIdx (λrow=> !decide (row.getD c 0=0)):Nat):Int) else -1
theorem idxZ_at {c k:Nat}{Ls:List (List Rat)}(hk:k<Ls.length)(h0:∀j,j<k->(Ls.getD j []).getD c 0=0)(h1:(Ls.getD k []).getD c 0≠0):idxZ c Ls=(k:Int):=by
 have e:Ls.findIdx (λrow=> !decide (row.getD c 0=0))=k:=by
  rw [List.findIdx_eq hk];have hg:∀j (hj:j<Ls.length),Ls.getD j []=Ls[j]:=λj hj=>by rw [List.getD_eq_getElem?_getD,List.getElem?_eq_getElem hj];rfl
  refine⟨by rw [hg k hk] at h1;simpa using h1,λj hj=>?_⟩;have:=h0 j hj;rw [hg j om9] at this;simpa using this
 unfold idxZ;rw [e,if_pos hk]
theorem zqL {x:Rat}(h:(!decide (x=0))=true):x≠0:=by simpa using h
theorem zqz {c:Nat}{Ls:List (List Rat)}(h0:∀j,j<Ls.length->(Ls.getD j []).getD c 0=0):idxZ c Ls= -1:=by
 unfold idxZ;rw [if_neg];intro h;have h1:=List.findIdx_getElem (p:=λrow:List Rat=> !decide (row.getD c 0=0)) (xs:=Ls) (w:=h);have h2:=h0 _ h;rw [List.getD_eq_getElem?_getD (l:=Ls),List.getElem?_eq_getElem h] at h2;exact zqL h1 h2
end
