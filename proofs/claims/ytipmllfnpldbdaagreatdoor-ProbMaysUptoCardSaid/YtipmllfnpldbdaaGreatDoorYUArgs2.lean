/- What this claim leans on. -/
import Derived.Test.YtipmllfnpldbdaaGreatDoorYVArgs
import Derived.Deep.Strs
set_option linter.unusedVariables false
set_option linter.unusedSimpArgs false
namespace Go.Proofs.YtipmllfnpldbdaaGreatDoor
open Go Go.RowKit Go.Proofs.Tryz
open Go.ChangeShapes Go.WideShapes Go.ChangeAt Go.Deep
set_option maxHeartbeats 16000000
namespace UA
set_option maxHeartbeats 16000000
theorem mem_le {H:Type}{d:DataW H}{l:List (DataW H)}(h:d ∈ l):Rows.uptoBulk d<=Rows.uptoBulkAll l:=by
 induction l with
 |nil=>cases h
 |cons x r ih=>
   simp only [Rows.uptoBulkAll];rcases List.mem_cons.1 h with rfl|h
   ·omega
   ·have:=ih h;omega
end UA
open Go Go.RowKit Go.Proofs.Tryz
open Go.ChangeShapes Go.WideShapes Go.ChangeAt Go.Deep
set_option maxHeartbeats 16000000
variable {args:Array Value}{f:FuncId}{c d:Nat}{t t5 t9:TypeId}{v:Value}{W w:World}{A:zf}
structure vd where
 A:zf
 n:Nat
 c:Nat
 L:List (Int×Int)
 k:Int
 p:Int
 q:Int
structure jy (W:World)(x:vd):Prop where
 co:vm W x.A x.n x.c x.L
 k:wC x.k
 p:wC x.p
 q:wC x.q
structure rF (W:World)(A:zf)(n c:Nat)(R:Nat->vd):Prop where
 fits:n<=c
 small:c<=1048576
 row:∀r,r<n->jy W (R r)/\∃ad,A=some ad/\ad.block<W.heap.size/\W.cell? (ad.add (r*4))=some (.slice (R r).A (R r).n (R r).c)/\W.cell? (ad.add (r*4+1))=some (.int .i64 (R r).k)/\W.cell? (ad.add (r*4+2))=some (.int .i64 (R r).p)/\W.cell? (ad.add (r*4+3))=some (.int .i64 (R r).q)
theorem rF.below {W':World}{n:Nat}{R:Nat->vd}(h:rF W A n c R)(hb:Below W.heap.size W W'):rF W' A n c R:=
 ⟨h.fits,h.small,λr hr=>by
  obtain⟨⟨h1,h2,h3,h4⟩,ad,e,hl,c0,c1,c2,c3⟩:=h.row r hr;have k:∀j v,W.cell? (ad.add j)=some v->W'.cell? (ad.add j)=some v:=λj v hv=>(hb.cell (by rw [y9];exact hl)).trans hv;exact⟨⟨h1.below hb,h2,h3,h4⟩,ad,e,qJ hl hb.size,k _ _ c0,k _ _ c1,k _ _ c2,k _ _ c3⟩⟩
theorem WS {H:Type}{g:TypeId×Value->H}{P:Program}{t0 t6:TypeId}{e0 e1 e2 f0 f1:Field}{c0 c1 c2 c3:Value}{x:DataW H×List MemPlace}
  (i:P.underlying t5=some (.struct #[e0,e1,e2])) (a:(e0.offset,P.cellsOf e0.type,e1.offset,P.cellsOf e1.type,e2.offset,P.cellsOf e2.type)=(0,1,1,1,2,2)) (j:P.underlying e0.type=some (.slice t)) (k1:P.underlying e1.type=some (.int .i64)) (k2:P.underlying e2.type=some (.struct #[f0,f1]))
  (hs:P.underlying t=some (.struct #[f0,f1])) (hf:(f0.offset,P.cellsOf f0.type,f1.offset,P.cellsOf f1.type)=(0,1,1,1)) (hC:P.cellsOf t=2) (h0:P.underlying f0.type=some (.int .i64)) (h1:P.underlying f1.type=some (.int .i64))
  (h:DataW.trod g P W 0 (λ_=>true) true d t5 [c0,c1,c2,c3]=some x) (hb:Rows.uptoBulk x.1<=1048576):∃y:vd,c0=.slice y.A y.n y.c/\c1=.int .i64 y.k/\c2=.int .i64 y.p/\c3=.int .i64 y.q/\jy W y:=by
 simp only [Prod.mk.injEq] at a;obtain⟨y0,y1,y2,n,rfl,_,j0,j1,j2⟩:=trod_struct3 i h;rw [a.1,a.2.1] at j0;rw [a.2.2.1,a.2.2.2.1] at j1;rw [a.2.2.2.2.1,a.2.2.2.2.2] at j2;simp only [List.drop_zero,List.take_succ_cons,List.take_zero,List.drop_succ_cons] at j0 j1 j2;obtain⟨A,m,c,L,rfl,hL⟩:=fG j hs hf hC h0 h1 j0 (by simp only [Rows.uptoBulk,Rows.uptoBulkAll] at hb;omega);obtain⟨z,hz,_,wz⟩:=DataW.trod_int k1 j1;simp only [List.cons.injEq,and_true] at hz;subst hz;have bz:=bounds_i64 wz;have bk:wC z:=⟨za,za⟩;obtain⟨p,q,rfl,rfl,hp,hq⟩:=eA k2 hf h0 h1 j2;exact⟨⟨A,m,c,L,z,p,q⟩,rfl,rfl,rfl,rfl,⟨hL,bk,hp,hq⟩⟩
theorem Vk {H:Type}{z:TypeId×Value->H}{P:Program}{i:Nat}{e0 e1 e2 f0 f1:Field}{n:Nat}{x:DataW H×List MemPlace}
  (L:P.underlying t9=some (.slice t5)) (B:P.cellsOf t5=4) (I:P.underlying t5=some (.struct #[e0,e1,e2])) (F:(e0.offset,P.cellsOf e0.type,e1.offset,P.cellsOf e1.type,e2.offset,P.cellsOf e2.type)=(0,1,1,1,2,2)) (K:P.underlying e0.type=some (.slice t)) (k1:P.underlying e1.type=some (.int .i64)) (k2:P.underlying e2.type=some (.struct #[f0,f1]))
  (hs:P.underlying t=some (.struct #[f0,f1])) (hf:(f0.offset,P.cellsOf f0.type,f1.offset,P.cellsOf f1.type)=(0,1,1,1)) (hC:P.cellsOf t=2) (h0:P.underlying f0.type=some (.int .i64)) (h1:P.underlying f1.type=some (.int .i64))
  (h:DataW.trod z P W 0 (λ_=>true) true i t9 (Value.slice A n c).cells.toList=some x) (hb:Rows.uptoBulk x.1<=1048576):∃R,rF W A n c R:=by
 rcases open_slice L h with⟨hcs,_⟩|⟨a,len,cap,m,k,D,Pl,hcs,_,hl,hm,hmm,hx,hi⟩
 ·simp [Value.cells] at hcs;obtain⟨rfl,rfl,rfl⟩:=hcs;exact⟨λ_=>⟨none,0,0,[],0,0,0⟩,qX _,za,λr hr=>by omega⟩
 ·simp [Value.cells] at hcs;obtain⟨rfl,rfl,rfl⟩:=hcs;rw [if_pos rfl] at hmm;rw [hmm] at hx hi;subst hx;have J:=UA.slice_le (H:=H) ((List.range n).map D) ((List.range (c - n)).map λj=>D (n+j));have C:Rows.uptoBulk (DataW.slice (H:=H) ((List.range n).map D) ((List.range (c - n)).map λj=>D (n+j)))<=1048576:=hb;have E:c<=1048576:=by
   simp only [YJ,List.length_range] at J;omega
  have g:∀r,r<n->∃y:vd,jy W y/\W.cell? (a.add (r*4))=some (.slice y.A y.n y.c)/\W.cell? (a.add (r*4+1))=some (.int .i64 y.k)/\W.cell? (a.add (r*4+2))=some (.int .i64 y.p)/\W.cell? (a.add (r*4+3))=some (.int .i64 y.q):=λr hr=>by
   obtain⟨cs,u,M⟩:=hi r za;rw [B] at u;obtain⟨_,v,d⟩:=World.cells?_some u;obtain⟨c0,c1,c2,c3,rfl⟩:∃c0 c1 c2 c3,cs=[c0,c1,c2,c3]:=by
    match cs,v with
    |[c0,c1,c2,c3],_=>exact⟨c0,c1,c2,c3,rfl⟩
   have hD:Rows.uptoBulk (D r)<=1048576:=by
    have G:D r ∈(List.range n).map D:=List.mem_map.2 ⟨r,List.mem_range.2 hr,rfl⟩;have hm2:=UA.mem_le G;simp only [Rows.uptoBulk] at C;omega
   obtain⟨y,rfl,rfl,rfl,rfl,hy⟩:=WS (t6:=t) (t0:=t) (x:=(D r,Pl r)) I F K k1 k2 hs hf hC h0 h1 M hD;have g0:=d 0 zh;have g1:=d 1 zh;have g2:=d 2 zh;have g3:=d 3 zh;rw [Go.Deep.add_add] at g0 g1 g2 g3;exact⟨y,hy,g0,g1,g2,g3⟩
  refine⟨λr=>if hr:r<n then(g r hr).choose else⟨none,0,0,[],0,0,0⟩,hl,E,λr hr=>?_⟩;simp only [dif_pos hr];obtain⟨hy,g0,g1,g2,g3⟩:=(g r hr).choose_spec;refine⟨hy,a,rfl,?_,g0,g1,g2,g3⟩;have:=qT W _ g0;rw [y9] at this;exact this
theorem ZM {H:Type}{i:TypeId×Value->H}{P:Program}{e0 e1 e2 f0 f1:Field}{x:DataW H×List MemPlace}
  (g:P.underlying t9=some (.slice t5)) (j:P.cellsOf t5=4) (y:P.underlying t5=some (.struct #[e0,e1,e2])) (u:(e0.offset,P.cellsOf e0.type,e1.offset,P.cellsOf e1.type,e2.offset,P.cellsOf e2.type)=(0,1,1,1,2,2)) (z:P.underlying e0.type=some (.slice t)) (k1:P.underlying e1.type=some (.int .i64)) (k2:P.underlying e2.type=some (.struct #[f0,f1]))
  (hs:P.underlying t=some (.struct #[f0,f1])) (hf:(f0.offset,P.cellsOf f0.type,f1.offset,P.cellsOf f1.type)=(0,1,1,1)) (hC:P.cellsOf t=2) (h0:P.underlying f0.type=some (.int .i64)) (h1:P.underlying f1.type=some (.int .i64))
  (h:DataW.trod i P W 0 (λ_=>true) true d t9 [v]=some x) (hb:Rows.uptoBulk x.1<=1048576):∃A n c R,v=.slice A n c/\rF W A n c R:=by
 have go:∀A n c,[v]=[Value.slice A n c]->∃A n c R,v=.slice A n c/\rF W A n c R:=λA n c e=>by
  simp only [List.cons.injEq,and_true] at e;subst e;obtain⟨R,hR⟩:=Vk g j y u z k1 k2 hs hf hC h0 h1 (A:=A) (n:=n) (c:=c) (by simpa [Value.cells] using h) hb;exact⟨A,n,c,R,rfl,hR⟩
 rcases open_slice g h with⟨hcs,_⟩|⟨a,len,cap,m,k,D,Pl,hcs,_⟩
 ·exact go _ _ _ hcs
 ·exact go _ _ _ hcs
theorem kE {H:Type}{g:TypeId×Value->H}{P:Program}{r:Reach}{b0:Nat}{t8 t9:TypeId}{g0 g1 e0 e1 e2 f0 f1:Field}{d:DataW H}{p:List MemPlace}
  (C:P.underlying t8=some (.struct #[g0,g1])) (a:oneCellFields P #[g0,g1]=true) (i:P.cellsOf t8=2) (hq:P.underlying g0.type=some (.slice t)) (E:P.underlying g1.type=some (.slice t5)) (j:P.cellsOf t5=4) (z:P.underlying t5=some (.struct #[e0,e1,e2]))
  (y:(e0.offset,P.cellsOf e0.type,e1.offset,P.cellsOf e1.type,e2.offset,P.cellsOf e2.type)=(0,1,1,1,2,2)) (D:P.underlying e0.type=some (.slice t)) (k1:P.underlying e1.type=some (.int .i64)) (k2:P.underlying e2.type=some (.struct #[f0,f1]))
  (hs:P.underlying t=some (.struct #[f0,f1])) (hf:(f0.offset,P.cellsOf f0.type,f1.offset,P.cellsOf f1.type)=(0,1,1,1)) (hC:P.cellsOf t=2) (h0:P.underlying f0.type=some (.int .i64)) (h1:P.underlying f1.type=some (.int .i64))
  (hv:Value.okWide P W r b0 t8 v) (h:DataW.Trod g P W 0 (λ_=>true) true t8 v d p) (hb:Rows.uptoBulk d<=1048576):∃(A:zf) (n c:Nat) (L:List (Int×Int)) (B:zf) (m e:Nat) (R:Nat->vd),v=.agg #[.slice A n c,.slice B m e]/\vm W A n c L/\rF W B m e R:=by
 obtain⟨v0,v1,y0,y1,n,rfl,rfl,rfl,i0,i1⟩:=Go.Joins.open_agg2 C a i hv h;have u:Rows.uptoBulk y0.1<=1048576:=by simp only [Rows.uptoBulk,Rows.uptoBulkAll] at hb;omega
 have x:Rows.uptoBulk y1.1<=1048576:=by simp only [Rows.uptoBulk,Rows.uptoBulkAll] at hb;omega
 obtain⟨A,m,c,L,rfl,hL⟩:=fG hq hs hf hC h0 h1 i0 u;obtain⟨B,k,e,R,rfl,hR⟩:=ZM E j z y D k1 k2 hs hf hC h0 h1 i1 x;exact⟨A,m,c,L,B,k,e,R,rfl,hL,hR⟩
open Go Go.RowKit Go.Proofs.Tryz
set_option maxHeartbeats 16000000
inductive Er where
 |no:Er
 |bare:Int->Er
 |spot:Int->ByteArray->Int->Er
def Er.n:Er->Int|.no=>0|.bare n=>n|.spot n _ _=>n
def Er.s:Er->ByteArray|.spot _ s _=>s|_=>{data:=#[]}
def Er.k:Er->Int|.spot _ _ k=>k|_=>0
open Go Go.RowKit Go.Proofs.Tryz
open Go.Extern.Stop Go.Stop Go.Extern
set_option maxHeartbeats 16000000
theorem Xc (v:Value)(xT:TypeId)(w:World):(Instr.typeAssert (.iface 71 v) xT 186 true).run prog w=.ok (.tuple #[.nilIface,.bool false]) w:=run_typeAssert_lacksB underlying186 zm zm v xT w
theorem Xd (v:Value)(xT:TypeId)(w:World):(Instr.typeAssert (.iface 71 v) xT 189 true).run prog w=.ok (.tuple #[.nilIface,.bool false]) w:=run_typeAssert_lacksB underlying189 zm zm v xT w
theorem Xe (v:Value)(xT:TypeId)(w:World):(Instr.typeAssert (.iface 71 v) xT 191 true).run prog w=.ok (.tuple #[.nilIface,.bool false]) w:=run_typeAssert_lacksB underlying191 zm zm v xT w
theorem Xt (z:Int)(t:Addr)(old:Value)(w:World)(hg:w.cell? ⟨0,0,none⟩=some (.iface 181 (.agg #[.pointer (some ⟨4,37,none⟩)])))(ht0:w.cell? t=some old):
  Calls prog 91 #[.iface 71 (.int .i64 z),.iface 148 (.pointer (some t))] w λe w'=>e=.returned (.bool false)/\w'=(((w.alloc (.cells #[.pointer (some t)] 148)).alloc (.cells #[.pointer (some ⟨4,148,none⟩),.pointer (some ⟨w.heap.size,0,none⟩),.int .u64 150] 163)).alloc (.cells #[.pointer (some ⟨4,148,none⟩),.pointer (some ⟨w.heap.size,0,none⟩),.int .u64 150] 163)):=by
 have x_typeOf:=@run_callFunc_extern prog 122 _ ReflectliteType.typeOf func122 zm zm zm zm;have x_valueOf:=@run_callFunc_extern prog 109 _ (λargs=>ReflectliteValue.unpack (args.getD 0 (.tuple #[]))) func109 zm zm zm zm;have x_type:=@run_callFunc_extern prog 110 _ (ReflectliteValue.methodAny (ReflectliteValue.valueError "reflectlite.Value.Type" 0) (fun t _ _ _ => ReflectliteType.toType t)) func110 zm zm zm zm
 have x_isNil:=@run_callFunc_extern prog 111 _ (ReflectliteValue.method (ReflectliteValue.valueError "reflectlite.Value.IsNil" 0) ReflectliteValue.isNil) func111 zm zm zm zm
 have x_kind:=@run_callFunc_extern prog 177 _ (ReflectliteType.abiMethod λt=>do pure (.int .u8 (<-Rtype.kind t))) func177 zm zm zm zm;have x_telem:=@run_callFunc_extern prog 191 _ (ReflectliteType.method ReflectliteType.elem) func191 zm zm zm zm;have x_implements:=@run_callFunc_extern prog 192 _ (ReflectliteType.relation "Implements" ReflectliteType.implements_) func192 zm zm zm zm
 have x_assignable:=@run_callFunc_extern prog 189 _ (ReflectliteType.relation "AssignableTo" ReflectliteType.assignableTo) func189 zm zm zm zm
 have t0:=io;have m1:=kI;have m2:=Xq;have m4:=dH;have m5:=eV;have m6:=jh;have m7:=jg;have m8:=kJ;have m9:=eT;have n1:=dF;have n2:=eR;have n3:=dD;have n4:=ej ⟨w.heap.size,0,none⟩ t ((w.alloc (.cells #[.pointer (some t)] 148)).alloc (.cells #[.pointer (some ⟨4,148,none⟩),.pointer (some ⟨w.heap.size,0,none⟩),.int .u64 150] 163)) zD;have l1:=Xc;have l2:=Xd;have l3:=Xe;have a:0<w.heap.size:=qT w ⟨0,0,none⟩ hg;have hg2:((w.alloc (.cells #[.pointer (some t)] 148)).alloc (.cells #[.pointer (some ⟨4,148,none⟩),.pointer (some ⟨w.heap.size,0,none⟩),.int .u64 150] 163)).cell? ⟨0,0,none⟩=some (.iface 181 (.agg #[.pointer (some ⟨4,37,none⟩)])):=by
  rw [World.cell?_alloc_lt _ _ ⟨0,0,none⟩ zD,World.cell?_alloc_lt _ _ ⟨0,0,none⟩ a];exact hg
 go_enter func91,ntmps91;go_wp2;refine wp_loop_rounds 1 ?_;rw [rounds_succ];go_wp2;go_ret;exact⟨rfl,rfl⟩
open Go Go.RowKit Go.Proofs.Tryz
set_option maxHeartbeats 16000000
theorem ua {P:Program}{z v:Int}(e:z=v)(h:Calls P f args w (wF w z)):Calls P f args w λe w'=>e=.returned (.int .i64 v)/\Below w.heap.size w w':=by
 subst e;exact h
theorem xc {P:Program}{b t:Bool}(e:b=t)(h:Calls P f args w λe w'=>e=.returned (.bool b)/\Below w.heap.size w w'):Calls P f args w λe w'=>e=.returned (.bool t)/\Below w.heap.size w w':=by
 subst e;exact h
theorem tJ {T:World->Prop}(IC:oQ T)(x:Nat)(A:zf)(n c:Nat)(w:World)(hT:T w)(h:zp w x A n c)(hn:n<=268435456):Calls prog 99 #[.bool false,.agg #[.slice A n c]] w (yu w (x:Int)):=
 IC.new false x A n c w hT h hn
open Go Go.RowKit Go.Proofs.Tryz
set_option maxHeartbeats 16000000
set_option maxRecDepth 100000
theorem mQ (p:Int)(w:World)(hT:zv w)(g: -9223372036854775808<=p)(h:p<=9223372036854775807):
  Calls prog 36 #[.int .i64 p] w (ye w (p:Rat)):=by
 have j:=zd (xz (T:=zv));have HT:=zn w (λw' hb=>hT.on hb);have HTB:=HT;obtain⟨K,t⟩:∃K,67108864=K:=⟨_,rfl⟩;have hKK:K<=67108864:=za;have hK0:0<K:=za;clear hT t;go_enter func36,ntmps36;have hB:=qY w.heap.size w;obtain⟨a,d,bz⟩:=zG w 60 #[.bool false,.slice none 0 0,.slice none 0 0];have hB:=ze hB a;have k1:=d;clear a d bz;go_wp2_with fail;generalize w.alloc (.cells #[.bool false,.slice none 0 0,.slice none 0 0] 60)=W1 at*;have HZ2:zg (Sz (1) (p).natAbs):=(by show Int.natAbs p<18446744073709551616^1;have e1: -9223372036854775808<=p:=g;have e2:p<=9223372036854775807:=h;omega);(with_reducible refine(j.o.of p _ (HT.o _ hB) g h).mono ?_);rintro e wc2 ⟨b2,B2,m2,d2,rfl,i,hb⟩;have hB:=ze hB hb;have k1:=zj hb k1;have m:=zd i;clear hb i;obtain⟨sc0,sf0,sc1,sf1,sc2,sf2⟩:=yj k1 (.bool b2) (.slice B2 m2 d2);obtain⟨r0,r1,r2⟩:=(yi k1 (.bool b2) (.slice B2 m2 d2) (.slice none 0 0)).c3;have HG:=zd (xw (iU m.o) k1 hB za);go_wp2;refine bodyPost_ret (v:=.agg #[.bool b2,.slice B2 m2 d2,.slice none 0 0]) (by simp [results,results36,go_sem,r0,r1,r2]) rfl ?_;exact HG.o
