/- What this claim leans on. -/
import Derived.Test.YtipmllfnpldbdaaGreatDoorYE9As
import Derived.Test.YtipmllfnpldbdaaGreatDoorYVRow
import Derived.Test.YtipmllfnpldbdaaGreatDoorYMeet4
set_option linter.unusedVariables false
set_option linter.unusedSimpArgs false
namespace Go.Proofs.YtipmllfnpldbdaaGreatDoor
open Go Go.RowKit Go.Proofs.Tryz
open Go.Extern.Stop Go.Stop Go.Extern
set_option maxHeartbeats 16000000
variable {vs:List Value}{g x y:Nat}{t:TypeId}{v:Value}{w w':World}
theorem Yk (v:Value)(xT:TypeId)(w:World):(Instr.typeAssert (.iface 144 v) xT 186 true).run prog w=.ok (.tuple #[.nilIface,.bool false]) w:=run_typeAssert_lacksB underlying186 zm zm v xT w
theorem Xr (v:Value)(xT:TypeId)(w:World):(Instr.typeAssert (.iface 144 v) xT 189 true).run prog w=.ok (.tuple #[.iface 144 v,.bool true]) w:=run_typeAssert_hasB underlying189 zm v xT w
theorem Xs (h : Value) (w : World) : (Go.method 353 144 h "Unwrap").run prog w = .ok (184,h) w:=zm
theorem Vl (z:Int)(fb:Nat)(t:Addr)(old:Value)(w:World)(hg:w.cell? ⟨0,0,none⟩=some (.iface 181 (.agg #[.pointer (some ⟨4,37,none⟩)])))(hf:w.cell? ⟨fb,2,none⟩=some (.iface 71 (.int .i64 z)))(a:w.cell? t=some old)(g:w.frozen? t=false):
  Calls prog 91 #[.iface 144 (.pointer (some ⟨fb,0,none⟩)),.iface 149 (.pointer (some t))] w λe w'=>e=.returned (.bool true)/\w'=((((w.alloc (.cells #[.pointer (some t)] 149)).alloc (.cells #[.pointer (some ⟨4,149,none⟩),.pointer (some ⟨w.heap.size,0,none⟩),.int .u64 150] 163)).alloc (.cells #[.pointer (some ⟨4,149,none⟩),.pointer (some ⟨w.heap.size,0,none⟩),.int .u64 150] 163)).alloc (.cells #[.int .i64 z] 71)).setCell t (.int .i64 z):=by
 have x_typeOf:=@run_callFunc_extern prog 122 _ ReflectliteType.typeOf func122 zm zm zm zm;have x_valueOf:=@run_callFunc_extern prog 109 _ (λargs=>ReflectliteValue.unpack (args.getD 0 (.tuple #[]))) func109 zm zm zm zm;have x_type:=@run_callFunc_extern prog 110 _ (ReflectliteValue.methodAny (ReflectliteValue.valueError "reflectlite.Value.Type" 0) (fun t _ _ _ => ReflectliteType.toType t)) func110 zm zm zm zm
 have x_isNil:=@run_callFunc_extern prog 111 _ (ReflectliteValue.method (ReflectliteValue.valueError "reflectlite.Value.IsNil" 0) ReflectliteValue.isNil) func111 zm zm zm zm
 have x_kind:=@run_callFunc_extern prog 177 _ (ReflectliteType.abiMethod λt=>do pure (.int .u8 (<-Rtype.kind t))) func177 zm zm zm zm;have x_telem:=@run_callFunc_extern prog 191 _ (ReflectliteType.method ReflectliteType.elem) func191 zm zm zm zm;have x_implements:=@run_callFunc_extern prog 192 _ (ReflectliteType.relation "Implements" ReflectliteType.implements_) func192 zm zm zm zm
 have x_assignable:=@run_callFunc_extern prog 189 _ (ReflectliteType.relation "AssignableTo" ReflectliteType.assignableTo) func189 zm zm zm zm
 have x_elem:=@run_callFunc_extern prog 123 _ (ReflectliteValue.method (ReflectliteValue.valueError "reflectlite.Value.Elem" 0) ReflectliteValue.elem) func123 zm zm zm zm
 have x_set:=@run_callFunc_extern prog 124 _ ReflectliteValue.set func124 zm zm zm zm;have t0:=io;have t1:=es;have m1:=kI;have m2:=eQ;have m2':=Xp;have m3:=bJ;have m4:=dI;have m5:=eW;have m6:=jh;have m7:=jg;have m8:=kJ;have m9:=eU;have n1:=dG;have n2:=eS;have n3:=dE;have l1:=Yk;have l2:=Xr;have l3:=Xs;have n4:=ek ⟨w.heap.size,0,none⟩ t ((w.alloc (.cells #[.pointer (some t)] 149)).alloc (.cells #[.pointer (some ⟨4,149,none⟩),.pointer (some ⟨w.heap.size,0,none⟩),.int .u64 150] 163)) zD;have i:0<w.heap.size:=qT w ⟨0,0,none⟩ hg;have d:t.block<w.heap.size:=qT w t a;have h:fb<w.heap.size:=qT w ⟨fb,2,none⟩ hf;have hg2:((w.alloc (.cells #[.pointer (some t)] 149)).alloc (.cells #[.pointer (some ⟨4,149,none⟩),.pointer (some ⟨w.heap.size,0,none⟩),.int .u64 150] 163)).cell? ⟨0,0,none⟩=some (.iface 181 (.agg #[.pointer (some ⟨4,37,none⟩)])):=by
  rw [World.cell?_alloc_lt _ _ ⟨0,0,none⟩ zD,World.cell?_alloc_lt _ _ ⟨0,0,none⟩ i];exact hg
 have hf2:(((w.alloc (.cells #[.pointer (some t)] 149)).alloc (.cells #[.pointer (some ⟨4,149,none⟩),.pointer (some ⟨w.heap.size,0,none⟩),.int .u64 150] 163)).alloc (.cells #[.pointer (some ⟨4,149,none⟩),.pointer (some ⟨w.heap.size,0,none⟩),.int .u64 150] 163)).cell? ⟨fb,2,none⟩=some (.iface 71 (.int .i64 z)):=by
  rw [World.cell?_alloc_lt _ _ ⟨fb,2,none⟩ (by simp;omega),World.cell?_alloc_lt _ _ ⟨fb,2,none⟩ (by simp;omega),World.cell?_alloc_lt _ _ ⟨fb,2,none⟩ h];exact hf
 have n5:=ei ⟨w.heap.size,0,none⟩ t (((w.alloc (.cells #[.pointer (some t)] 149)).alloc (.cells #[.pointer (some ⟨4,149,none⟩),.pointer (some ⟨w.heap.size,0,none⟩),.int .u64 150] 163)).alloc (.cells #[.pointer (some ⟨4,149,none⟩),.pointer (some ⟨w.heap.size,0,none⟩),.int .u64 150] 163)) (by rw [World.cell?_alloc_lt _ _ ⟨w.heap.size,0,none⟩ (by simp;omega)];simp);have n6:=bI t ⟨w.heap.size + 1 + 1 + 1,0,none⟩ z old ((((w.alloc (.cells #[.pointer (some t)] 149)).alloc (.cells #[.pointer (some ⟨4,149,none⟩),.pointer (some ⟨w.heap.size,0,none⟩),.int .u64 150] 163)).alloc (.cells #[.pointer (some ⟨4,149,none⟩),.pointer (some ⟨w.heap.size,0,none⟩),.int .u64 150] 163)).alloc (.cells #[.int .i64 z] 71))
  (by rw [World.cell?_alloc_at _ _ _ _ zD];rfl)
  (by rw [World.cell?_alloc_lt _ _ t (by simp;omega),World.cell?_alloc_lt _ _ t (by simp;omega),World.cell?_alloc_lt _ _ t (by simp;omega),World.cell?_alloc_lt _ _ t d];exact a)
  (by rw [World.frozen?_alloc_old _ _ t (by simp;omega),World.frozen?_alloc_old _ _ t (by simp;omega),World.frozen?_alloc_old _ _ t (by simp;omega),World.frozen?_alloc_old _ _ t (YP d)];exact g)
 go_enter func91,ntmps91;go_wp2;refine wp_loop_rounds 2 ?_;rw [rounds_succ];go_wp2;rw [rounds_succ];go_wp2;go_ret;exact⟨rfl,rfl⟩
open Go Go.RowKit Go.Proofs.Tryz
set_option maxHeartbeats 16000000
def zv (w:World):Prop:=∀j,j<Lib.deBruijn64tab.length->w.cell? ⟨1,j,none⟩=some (.int .u8 (Lib.deBruijn64tab.getD j 0:Nat))
theorem zv.below {B:Nat}(h:zv w)(hb:Below B w w')(hB:1<B):zv w':=λj hj=>(hb.cell (p:=⟨1,j,none⟩) hB).trans (h j hj)
theorem zv.drewN (h:zv w)(n:Nat):zv (w.drewN n):=h
theorem zv.on (h:zv w)(hb:Below w.heap.size w w'):zv w':=h.below hb (by
 have:=h 0 zh;exact qT w _ this)
open Go Go.RowKit Go.Proofs.Tryz
set_option maxHeartbeats 16000000
theorem nI (x a:Nat)(hx:x<18446744073709551616)(hx0:x≠0)(d:x&&&(18446744073709551616 - x)=a):
  IntKind.u64.wrap (bits BinOp.and IntKind.u64 (x:Int) (IntKind.u64.wrap (-(x:Int)))*285870213051353865) / 288230376151711744=((a*285870213051353865%18446744073709551616 / 288230376151711744:Nat):Int):=by
 have e1:IntKind.u64.wrap (-(x:Int))=((18446744073709551616 - x:Nat):Int):=by rw [QL];omega
 rw [e1,bits_and_u64_nat x _ hx za,d,QL];omega
theorem Yf (x k a:Nat)(w:World)(hx0:((x:Int)==0)=false)
  (d:IntKind.u64.wrap (bits BinOp.and IntKind.u64 (x:Int) (IntKind.u64.wrap (-(x:Int)))*285870213051353865) / 288230376151711744=(a:Int))
  (hi:a<64) (hk:k<64) (hcell:w.cell? ⟨1,a,none⟩=some (.int .u8 k)):
  Calls prog 148 #[.int .u64 x] w λe w'=>e=.returned (.int .i64 k)/\w=w':=by
 go_enter func148,ntmps148;go_wp2_with (simp only [d]);go_ret;exact⟨rfl,rfl⟩
theorem Yg (w:World):
  Calls prog 148 #[.int .u64 0] w λe w'=>e=.returned (.int .i64 64)/\w=w':=by
 go_enter func148,ntmps148;go_wp2;go_ret;exact⟨rfl,rfl⟩
theorem aO (x:Int)(hx:Wd x)(w:World)(hT:zv w):
  Calls prog 148 #[.int .u64 x] w λe w'=>e=.returned (.int .i64 (mm x))/\w=w':=by
 obtain⟨h0,h1⟩:=hx;obtain⟨x,rfl⟩:=QT h0;have hN:x<18446744073709551616:=za;unfold mm;rw [Int.toNat_natCast];by_cases hx0:x=0
 ·subst hx0;exact Yg w
 ·obtain⟨d,hk⟩:=Lib.lowest_bit 64 x hx0 hN;obtain⟨hi,g⟩:=Lib.deBruijn64_at _ hk;have a:=hT _ hi;rw [g] at a;exact Yf x _ _ w (by simp;omega) (nI x _ hN hx0 d) hi hk a
open Go Go.RowKit Go.Proofs.Tryz
set_option maxHeartbeats 16000000
theorem Vt (x:Int)(hx:Wd x)(w:World)(hT:zv w):
  Calls prog 139 #[.int .u64 x] w λe w'=>e=.returned (.int .i64 (mm x))/\w=w':=by
 have H:=zd (aO x hx w hT);clear hT;go_enter func139,ntmps139;go_wp2_with (go_at_call 148;refine H.o.mono ?_;rintro e w' ⟨rfl,rfl⟩);go_ret;exact⟨rfl,rfl⟩
open Go Go.RowKit Go.Proofs.Tryz
set_option maxHeartbeats 16000000
def uS (_:TypeId)(cs:Array Value):Prop:=yd cs
def FN (x:Nat)(v:Value)(w:World):Prop:=∃(B:zf) (m d:Nat),v=.agg #[.slice B m d]/\zp w x B m d
def xj (x y:Nat)(v:Value)(w:World):Prop:=∃(B:zf) (m d:Nat) (C:zf) (n e:Nat),v=.tuple #[.agg #[.slice B m d],.agg #[.slice C n e]]/\zp w x B m d/\zp w y C n e
def FI (z:Int)(v:Value)(w:World):Prop:=∃(b:Bool) (A:zf) (n c:Nat),v=.agg #[.bool b,.slice A n c]/\zO w z b A n c
def FQ (r:Rat)(v:Value)(w:World):Prop:=∃(b:Bool) (A:zf) (n c:Nat) (E:zf) (k f:Nat),v=.agg #[.bool b,.slice A n c,.slice E k f]/\zu w r b A n c E k f
def mY (r:Rat)(t:Bool)(v:Value)(w:World):Prop:=∃(b:Bool) (A:zf) (n c:Nat) (E:zf) (k f:Nat),v=.tuple #[.agg #[.bool b,.slice A n c,.slice E k f],.bool t]/\zu w r b A n c E k f
def FV (u v:Value)(w:World):Prop:=v=u
instance {B:TypeId->Array Value->Prop}(u:Value):Kf B (FV u):=⟨λ_ _ _ _ h=>h,λ_ _ _ _ _ _ _ _ _ h=>h⟩
instance (x:Nat):Kf uS (FN x):=⟨λv w w' hb ⟨B,m,d,e,h⟩=>⟨B,m,d,e,h.below hb⟩,λv w w' g t cs hB hk hf ⟨B,m,d,e,h⟩=>⟨B,m,d,e,oE h hk hB hf.1⟩⟩
instance (x y:Nat):Kf uS (xj x y):=⟨λv w w' hb ⟨B,m,d,C,n,f,e,h,h2⟩=>⟨B,m,d,C,n,f,e,h.below hb,h2.below hb⟩,λv w w' g t cs hB hk hf ⟨B,m,d,C,n,f,e,h,h2⟩=>⟨B,m,d,C,n,f,e,oE h hk hB hf.1,oE h2 hk hB hf.1⟩⟩
instance (z:Int):Kf uS (FI z):=⟨λv w w' hb ⟨b,A,n,c,e,h⟩=>⟨b,A,n,c,e,h.below hb⟩,λv w w' g t cs hB hk hf ⟨b,A,n,c,e,h⟩=>⟨b,A,n,c,e,iZ h hk hB hf.1⟩⟩
instance (r:Rat):Kf uS (FQ r):=⟨λv w w' hb ⟨b,A,n,c,E,k,f,e,h⟩=>⟨b,A,n,c,E,k,f,e,h.below hb⟩,λv w w' g t cs hB hk hf ⟨b,A,n,c,E,k,f,e,h⟩=>⟨b,A,n,c,E,k,f,e,pY h hk hB hf.1⟩⟩
instance (r:Rat)(u:Bool):Kf uS (mY r u):=⟨λv w w' hb ⟨b,A,n,c,E,k,f,e,h⟩=>⟨b,A,n,c,E,k,f,e,h.below hb⟩,λv w w' g t cs hB hk hf ⟨b,A,n,c,E,k,f,e,h⟩=>⟨b,A,n,c,E,k,f,e,pY h hk hB hf.1⟩⟩
theorem xj.l:∀v w,xj x y v w->∃vs u,v=.tuple vs/\vs[0]?=some u/\FN x u w:=λv w ⟨B,m,d,C,n,f,e,h,h2⟩=>⟨_,_,e,rfl,B,m,d,rfl,h⟩
theorem xj.r:∀v w,xj x y v w->∃vs u,v=.tuple vs/\vs[1]?=some u/\FN y u w:=λv w ⟨B,m,d,C,n,f,e,h,h2⟩=>⟨_,_,e,rfl,C,n,f,rfl,h2⟩
theorem mY.l {r:Rat}{t:Bool}:∀v w,mY r t v w->∃vs u,v=.tuple vs/\vs[0]?=some u/\FQ r u w:=λv w ⟨b,A,n,c,E,k,f,e,h⟩=>⟨_,_,e,rfl,b,A,n,c,E,k,f,rfl,h⟩
theorem mY.r {r:Rat}{t:Bool}:∀v w,mY r t v w->∃vs u,v=.tuple vs/\vs[1]?=some u/\FV (.bool t) u w:=λv w ⟨b,A,n,c,E,k,f,e,h⟩=>⟨_,_,e,rfl,rfl⟩
open Go Go.RowKit Go.Proofs.Tryz
set_option maxHeartbeats 16000000
def uI (u:Value):Prop:=∀k z,u≠.int k z
def wk (w:World)(v:Value):Prop:=∀g,v.ownBlock=some g->∃(cur:Array Value) (e:TypeId),w.heap[g]?=some (.cells cur e (0,0))/\∀u ∈ cur.toList,uI u
theorem wk.nil (w:World)(c:Nat):wk w (.slice none 0 c):=λg h=>by simp [Value.ownBlock] at h
theorem wk.block (h:wk w v)(hg:∀g,v.ownBlock=some g->w'.heap[g]?=w.heap[g]?):wk w' v:=λg e=>by
 obtain⟨a,t,h1,h2⟩:=h g e;exact⟨a,t,(hg g e).trans h1,h2⟩
theorem wk.below (h:wk w v)(hb:Below w.heap.size w w'):wk w' v:=λg e=>by
 obtain⟨a,t,h1,h2⟩:=h g e;exact⟨a,t,(hb.block g (Array.getElem?_eq_some_iff.1 h1).1).trans h1,h2⟩
theorem ig {z:Array Value}{k:Nat}{u:Value}(hz:0<z.size)(hu:u ∈(Builtin.zeroCells z k).toList):u ∈ z.toList:=by
 unfold Builtin.zeroCells at hu;rw [YD,Array.mem_map] at hu;obtain⟨i,_,rfl⟩:=hu;have a:i%z.size<z.size:=QI _ hz;rw [getElem!_pos z (i%z.size) a,YD];exact Array.getElem_mem a
section
variable {P:Program}(w:World)
theorem ZR (x:Nat)(t ty e:TypeId)(i:TypeInfo)(z:Value)(size bytes:Nat)(ht:P.underlying t=some (.slice e))(hi:P.info? e=some i)(hz:i.zero=some z)
  (J:i.size=size) (R:i.bytes=bytes) (U:z.cells.size=size) (hsz:0<size)
  (v:Value) (n:Nat) (xs:List Value) (h:w.ownsRow x e size v n xs)
  (a:Addr) (m c:Nat) (d:List Value) (hl:d.length=m*size) (B:∀j u,d[j]?=some u->w.cell? (a.add j)=some u) (h1:∀u ∈ d,u.oneCell'=true)
  (L:n+m<=maxLen) (C:(n+m)*bytes<=140737488355328) (F:x<=w.heap.size)
  (hv:wk w v) (T:∀u ∈ z.cells.toList,uI u) (Q:∀u ∈ d,uI u):
  ∃ v' w',(Builtin.append_ #[t,t] ty #[v,.slice (some a) m c]).run P w = .ok v' w' ∧ w'.ownsRow x e size v' (n + m) (xs ++ d) ∧ w.grownBy w' v.ownBlock ∧
   (v'.ownBlock=v.ownBlock\/v'.ownBlock=some w.heap.size)/\wk w' v':=by
 subst J;subst R;have hsmall:n+m<=9223372036854775807:=by simp only [maxLen] at L;omega
 have D:(xs++d).length=(n+m)*i.size:=by rw [qA,h.1,hl,QH]
 have grown : ∀ (old : Nat),old < n + m → (∀ u ∈ xs,uI u) → ∀ (row : Option Nat),
   (w.drew.alloc (.cells (xs.toArray ++ d.toArray ++ Builtin.zeroCells z.cells (grownCap w (n + m) old e - (n + m))) e)).ownsRow x e i.size
     (.slice (some ⟨w.heap.size,0,none⟩) (n+m) (grownCap w (n+m) old e)) (n+m) (xs++d)/\
   w.grownBy (w.drew.alloc (.cells (xs.toArray++d.toArray++Builtin.zeroCells z.cells (grownCap w (n+m) old e - (n+m))) e)) row/\
   wk (w.drew.alloc (.cells (xs.toArray++d.toArray++Builtin.zeroCells z.cells (grownCap w (n+m) old e - (n+m))) e)) (.slice (some ⟨w.heap.size,0,none⟩) (n+m) (grownCap w (n+m) old e)):=by
  intro old ho K row;have S:=grownCap_ge w (n+m) old e;have G:grownCap w (n+m) old e<=maxLen:=grownCap_le_maxLen w (n+m) old e L;refine⟨⟨D,.inr ⟨w.heap.size,_,_,rfl,F,heap_alloc_new w.drew _,S,G,?_,?_⟩⟩,⟨rfl,rfl,rfl,zD,λk hk _=>heap_alloc_old w.drew _ hk⟩,?_⟩
  ·simp only [Array.size_append,xH,size_zeroCells,U,h.1,hl,<-QH];congr 1;omega
  ·simp only [yT,xX];rw [<-xX,<-D];exact YO
  ·intro g hg;simp [Value.ownBlock] at hg;subst hg;refine⟨_,_,heap_alloc_new w.drew _,λu hu=>?_⟩;simp only [yT,XI] at hu;rcases hu with(hu|hu)|hu
   ·exact K u hu
   ·exact Q u hu
   ·exact T u (ig za hu)
 rcases h.2 with⟨rfl,rfl⟩|⟨g,cap,cur,rfl,hbg,hg,hnc,G,hcs,htake⟩
 ·have hx:xs=[]:=qM (by simpa using h.1);subst hx;by_cases hm:m=0
  ·subst hm;have hn:d=[]:=qM (by simpa using hl);subst hn;refine⟨.slice none 0 0,w,?_,XH w x e i.size,⟨rfl,rfl,rfl,qX _,λ_ _ _=>rfl⟩,Or.inl rfl,wk.nil _ _⟩;simp [Builtin.append_,run_underlying ht,sizeOf,typeInfo,hi,Builtin.lenOf,Builtin.firstCells,loadCells,loadCellsFrom]
  ·have hr:=run_append_nil (P:=P) w t ty e i z ht hi hz a m c d hl B za za (by have hb:=C;simp only [xG] at hb;omega);have A:=grown 0 za (λu hu=>by cases hu) (Value.ownBlock (.slice none 0 0));simp only [xG,XR,Array.empty_append] at A⊢;exact⟨_,_,hr,A.1,A.2.1,Or.inr rfl,A.2.2⟩
 ·obtain⟨y,e2,E,H⟩:=hv g rfl;have M:y=cur:=by
   rw [hg] at E;injection E with E;injection E with E;exact E.symm
  subst M;by_cases hroom:n+m<=cap
  ·have N:n*i.size+d.length<=y.size:=by rw [hl,hcs,<-QH];exact QK _ hroom
   have hr:=run_append_room (P:=P) w t ty e i ht hi g n cap y hg a m c d hl B h1 hroom N;refine⟨_,_,hr,⟨D,.inr ⟨g,cap,_,rfl,hbg,setRow_heap w g y _ e _ hg,hroom,G,?_,?_⟩⟩,⟨rfl,rfl,rfl,zD,λk _ hk=>setRow_other w g k _ (λe=>hk (by simp [Value.ownBlock,e]))⟩,Or.inl rfl,?_⟩
   ·simp only [xH,qA,QY,YX,XL];omega
   ·rw [htake,<-D];exact YO
   ·intro g' O;simp [Value.ownBlock] at O;subst O;refine⟨_,_,setRow_heap w g y _ e _ hg,λu hu=>?_⟩;rw [XI,XI] at hu;rcases hu with(hu|hu)|hu
    ·exact H u (XK hu)
    ·exact Q u hu
    ·exact H u (YV hu)
  ·have I:∀j u,xs[j]?=some u->w.cell? ((⟨g,0,none⟩:Addr).add j)=some u:=h.cells (g:=g) rfl;have hr:=run_append_grow (P:=P) w t ty e i z ht hi hz ⟨g,0,none⟩ n cap xs h.1 I a m c d hl B za za (growslice_fits za C);have K:∀u ∈ xs,uI u:=λu hu=>H u (XK (by rw [htake];exact hu));have A:=grown cap za K (Value.ownBlock (.slice (some ⟨g,0,none⟩) n cap));exact⟨_,_,hr,A.1,A.2.1,Or.inr rfl,A.2.2⟩
theorem ZI {E:Array Oper}{rest:List Oper}{o:Oper}{a:Act}{Q:Exit->Act->World->Prop}(H:o.guard=none)(s x:Operand)(t:TypeId)
  (ho:o.op=.call {callee:=.builtin .append,args:=#[s,x],argTypes:=#[t,t]})
  (g:Nat) (e:TypeId) (i:TypeInfo) (z:Value) (size bytes:Nat) (ht:P.underlying t=some (.slice e)) (hi:P.info? e=some i) (hz:i.zero=some z)
  (C:i.size=size) (G:i.bytes=bytes) (L:z.cells.size=size) (hsz:0<size)
  (v:Value) (n:Nat) (xs:List Value) (hs:a.eval s=v) (D:w.ownsRow g e size v n xs)
  (ad:Addr) (m c:Nat) (d:List Value) (hx:a.eval x=.slice (some ad) m c) (hl:d.length=m*size) (B:∀j u,d[j]?=some u->w.cell? (ad.add j)=some u) (h1:∀u ∈ d,u.oneCell'=true)
  (F:n+m<=maxLen) (y:(n+m)*bytes<=140737488355328) (A:g<=w.heap.size)
  (hv:wk w v) (J:∀u ∈ z.cells.toList,uI u) (I:∀u ∈ d,uI u)
  (h:∀v' w',w'.ownsRow g e size v' (n+m) (xs++d)->w.grownBy w' v.ownBlock->(v'.ownBlock=v.ownBlock\/v'.ownBlock=some w.heap.size)->wk w' v'->wpList P E Q rest (a.put o.dst v') w'):
  wpList P E Q (o::rest) a w:=by
 refine wpList_plain H λK hK=>?_;obtain⟨v',w',hr,h2,h3,h4,h5⟩:=ZR (P:=P) w g t o.type e i z size bytes ht hi hz C G L hsz v n xs D ad m c d hl B h1 F y A hv J I;unfold Oper.wp execOp;simp only [ho,resolve,invoke,builtin,Sem.run_bind,Sem.run_pure,Result.andThen_ok,YR,YK,List.map_nil,hs,hx,hr];exact hK _ _ (h v' w' h2 h3 h4 h5)
end
theorem wk.blk (h:wk w v)(hg:v.ownBlock=some g):∃(t:TypeId) (cs:Array Value),zi w g t cs/\yd cs:=by
 obtain⟨a,e,h1,h2⟩:=h g hg;exact⟨e,a,h1,λu hu k z=>h2 u hu k z⟩
theorem sZ.grown {α:Type}{E:El α}(hE:sZ E){w w':World}{v:Value}{x:α}{b:Bool}{A:zf}{n c:Nat}{F:zf}{k f:Nat}(h:E w x b A n c F k f)(hg:w.grownBy w' v.ownBlock)(hn:wk w v):E w' x b A n c F k f:=by
 cases hv:v.ownBlock with
 |none=>rw [hv] at hg;exact hE.below h (mw hg)
 |some g=>
   rw [hv] at hg;obtain⟨t,cs,hk,hc⟩:=hn.blk hv;exact hE.offg h hk hc (zY.of_grown hg)
theorem Yn {cs:Array Value}{row:Option Nat}(h:zi w g t cs)(hg:w.grownBy w' row)(a:row≠some g):zi w' g t cs:=(hg.block g (zi.lt h) (λe=>a e.symm)).trans h
structure wH {α:Type}(E:El α)(w:World)(base:Nat)(t:TypeId)(v:Value)(xs:List α)(vs:List Value):Prop where
 own:w.ownsRow base t 3 v xs.length vs
 nou:wk w v
 num:∀i x,xs[i]?=some x->∃(b:Bool) (B:zf) (m d:Nat) (F:zf) (u f:Nat),vs[i*3]?=some (.bool b)/\vs[i*3+1]?=some (.slice B m d)/\vs[i*3+2]?=some (.slice F u f)/\E w x b B m d F u f
section
variable {α:Type}{E:El α}
theorem wH.nil (w:World)(a:Nat)(t:TypeId):wH E w a t (.slice none 0 0) [] []:=⟨XH _ _ _ _,wk.nil _ _,λi x hi=>by simp at hi⟩
theorem wH.len {a:Nat}{xs:List α}(h:wH E w a t v xs vs):vs.length=xs.length*3:=h.own.1
theorem wH.shape {j:Nat}{xs:List α}(h:wH E w j t v xs vs):∃A c,v=.slice A xs.length c/\yf E w A xs.length c xs/\∀ad,A=some ad->j<=ad.block:=by
 rcases h.own.2 with⟨rfl,h0⟩|⟨g,cap,cur,rfl,hbg,hg,hnc,hcm,hcs,htake⟩
 ·have hx:xs=[]:=qM h0;subst hx;exact⟨none,0,rfl,yf.nil w,λad e=>by cases e⟩
 ·have a:=h.own.cells (g:=g) rfl;refine⟨some ⟨g,0,none⟩,cap,rfl,⟨rfl,hnc,by unfold maxLen at hcm;omega,λi x hi=>?_⟩,λad e=>by injection e with e;subst e;exact hbg⟩;obtain⟨b,B,m,d,F,u,f,h1,h2,h3,h4⟩:=h.num i x hi;exact⟨_,b,B,m,d,F,u,f,rfl,(Array.getElem?_eq_some_iff.1 hg).1,a _ _ h1,a _ _ h2,a _ _ h3,h4⟩
theorem wH.below (hE:sZ E){w w':World}{a:Nat}{t:TypeId}{v:Value}{xs:List α}{vs:List Value}(h:wH E w a t v xs vs)(hb:Below w.heap.size w w'):wH E w' a t v xs vs:=by
 refine⟨⟨h.own.1,?_⟩,h.nou.below hb,λi x hi=>?_⟩
 ·rcases h.own.2 with h1|⟨g,cap,cur,e1,e2,e3,e4⟩
  ·exact .inl h1
  ·exact .inr ⟨g,cap,cur,e1,e2,(hb.block g (zi.lt (t:=t) (cs:=cur) e3)).trans e3,e4⟩
 ·obtain⟨b,B,m,d,F,u,f,h1,h2,h3,h4⟩:=h.num i x hi;exact⟨b,B,m,d,F,u,f,h1,h2,h3,hE.below h4 hb⟩
theorem wH.grow (hE:sZ E){w w':World}{a n:Nat}{t:TypeId}{v v':Value}{xs:List α}{vs:List Value}{x:α}{b:Bool}{B F:zf}{m d u f:Nat}(h:wH E w a t v xs vs)(hx:E w x b B m d F u f)
  (ho:w'.ownsRow a t 3 v' n (vs++[.bool b,.slice B m d,.slice F u f])) (hn:n=xs.length+1) (hg:w.grownBy w' v.ownBlock) (j:wk w' v'):wH E w' a t v' (xs++[x]) (vs++[.bool b,.slice B m d,.slice F u f]):=by
 have hl:=h.len;refine⟨by rw [qA,XS,<-hn];exact ho,j,λi y hi=>?_⟩;by_cases hlt:i<xs.length
 ·rw [qO hlt] at hi;obtain⟨b1,B1,m1,d1,F1,u1,f1,h1,h2,h3,h4⟩:=h.num i y hi;exact⟨b1,B1,m1,d1,F1,u1,f1,by rw [qO za];exact h1,by rw [qO za];exact h2,by rw [qO za];exact h3,hE.grown h4 hg h.nou⟩
 ·rw [qD za] at hi;have g:i=xs.length:=by
   have:=(List.getElem?_eq_some_iff.1 hi).1;simp at this;omega
  subst g;obtain rfl:x=y:=by
   rw [xW] at hi;injection hi
  exact⟨b,B,m,d,F,u,f,by rw [qD za,hl,xW];rfl,by rw [qD za,hl,QW];rfl,by rw [qD za,hl,QW];rfl,hE.grown hx hg h.nou⟩
end
theorem Uz:∀u ∈(Value.agg #[.bool false,.slice none 0 0,.slice none 0 0]).cells.toList,uI u:=by intro u hu y z;simp [Value.cells] at hu;rcases hu with rfl|rfl<;>(intro h9;cases h9)
