/- What this claim leans on. -/
import Derived.Test.YtghpdeciaaagnaaGreatDoorQLFac
import Derived.Test.YtghpdeciaaagnaaGreatDoorQLSolv
namespace Go.Proofs.YtghpdeciaaagnaaGreatDoor
open Go Go.RowKit Go.Proofs.Tryz
open Go.ChangeShapes Go.WideShapes Go.ChangeAt Go.Deep
set_option maxHeartbeats 16000000
set_option linter.unusedVariables false
theorem zgN {H:Type}{f:TypeId×Value->H}{P:Program}{W:World}{b:Nat}{t9 t0 t:TypeId}{f0 f1:Field}{v:Value}{x:DataW H×List MemPlace}
  (d:P.underlying t9=some (.slice t0)) (g:P.cellsOf t0=1) (ht:P.underlying t0=some (.slice t)) (hs:P.underlying t=some (.struct #[f0,f1])) (hf:(f0.offset,P.cellsOf f0.type,f1.offset,P.cellsOf f1.type)=(0,1,1,1)) (hC:P.cellsOf t=2) (h0:P.underlying f0.type=some (.int .i64)) (h1:P.underlying f1.type=some (.int .i64))
  (h:DataW.trod f P W 0 (λ_=>true) true b t9 [v]=some x) (hb:Rows.uptoBulk x.1<=1048576):∃A n c R,v=.slice A n c/\zbc W A n c R:=by
 have go:∀A n c,[v]=[Value.slice A n c]->∃A n c R,v=.slice A n c/\zbc W A n c R:=λA n c e=>by
  simp only [List.cons.injEq,and_true] at e;subst e;obtain⟨R,hR⟩:=zkb d g ht hs hf hC h0 h1 (A:=A) (n:=n) (c:=c) (by simpa [Value.cells] using h) hb;exact⟨A,n,c,R,rfl,hR⟩
 rcases open_slice d h with⟨hcs,_⟩|⟨a,len,cap,m,k,D,Pl,hcs,_⟩
 ·exact go _ _ _ hcs
 ·exact go _ _ _ hcs
theorem arg_grid {H:Type}{b:TypeId×Value->H}{P:Program}{W:World}{r:Reach}{b0:Nat}{t8 t9 t0 t:TypeId}{g0 g1 f0 f1:Field}{v:Value}{d:DataW H}{p:List MemPlace}
  (i:P.underlying t8=some (.struct #[g0,g1])) (a:oneCellFields P #[g0,g1]=true) (f:P.cellsOf t8=2) (k0:P.underlying g0.type=some (.int .u8)) (j:P.underlying g1.type=some (.slice t0)) (g:P.cellsOf t0=1) (ht:P.underlying t0=some (.slice t))
  (hs:P.underlying t=some (.struct #[f0,f1])) (hf:(f0.offset,P.cellsOf f0.type,f1.offset,P.cellsOf f1.type)=(0,1,1,1)) (hC:P.cellsOf t=2) (h0:P.underlying f0.type=some (.int .i64)) (h1:P.underlying f1.type=some (.int .i64))
  (hv:Value.okWide P W r b0 t8 v) (h:DataW.Trod b P W 0 (λ_=>true) true t8 v d p) (hb:Rows.uptoBulk d<=1048576):∃(z:Nat) (A:oA9) (n c:Nat) (R:Nat->oA9×Nat×Nat×List (Int×Int)),v=.agg #[.int .u8 (z:Int),.slice A n c]/\z<=255/\zbc W A n c R:=by
 obtain⟨v0,v1,y0,y1,n,rfl,rfl,rfl,e0,e1⟩:=Go.Joins.open_agg2 i a f hv h;obtain⟨z,hz,_,wz⟩:=DataW.trod_int k0 e0;simp only [List.cons.injEq,and_true] at hz;subst hz;have bz:=bounds_u8 wz;obtain⟨A,m,c,R,rfl,hR⟩:=zgN j g ht hs hf hC h0 h1 e1 (by simp only [Rows.uptoBulk,Rows.uptoBulkAll] at hb;omega);exact⟨z.toNat,A,m,c,R,by rw [Int.toNat_of_nonneg bz.1],om9,hR⟩
open Go Go.RowKit Go.Proofs.Tryz
set_option maxHeartbeats 16000000
set_option maxRecDepth 100000
set_option linter.unusedVariables false
set_option linter.unusedSimpArgs false
def ziS (w:World)(n:Nat)(ld:List Nat)(eo:Ending)(w':World):Prop:=∃(A:oA9) (c:Nat),eo=.returned (.slice A n c)/\zdQ w' A n (ldI ld)/\Below w.heap.size w w'
theorem zly {w:World}{ld:List Nat}{n:Nat}{A:oA9}(hl:ld.length=n)(hb:∀l ∈ ld,l<128)(h:∀i,i<n->∃ad,A=some ad/\w.cell? (ad.add i)=some (.int .i64 (ld.getD i 0:Nat))):zdQ w A n (ldI ld) where
 len:=by unfold ldI;rw [List.length_map];exact hl
 ints:=λi hi=>by
  have:=hb (ld.getD i 0) (zdG om9);rw [zov om9];omega
 num:=λi hi=>by
  rw [zov om9];exact h i hi
theorem zok {w w':World}{v:Value}{ld:List Nat}{n:Nat}(ho:w'.ownsRow w.heap.size 3 1 v n (ldV ld))(hl:ld.length=n)(hb:∀l ∈ ld,l<128)(hB:Below w.heap.size w w'):ziS w n ld (.returned v) w':=by
 rcases ho.2 with⟨rfl,h0⟩|⟨g,cap,cur,rfl,hbg,hg,hnc,hcm,hcs,htake⟩
 ·subst h0;exact⟨none,0,rfl,zly hl hb λi hi=>absurd hi (Nat.not_lt_zero i),hB⟩
 ·have a:=ho.cells (g:=g) rfl;refine⟨some ⟨g,0,none⟩,cap,rfl,zly hl hb λi hi=>⟨_,rfl,a _ _ ?_⟩,hB⟩;unfold ldV;rw [List.getElem?_map,List.getD_eq_getElem?_getD,List.getElem?_eq_getElem om9];rfl
theorem ldV_one (ld:List Nat):∀u ∈ ldV ld,u.oneCell'=true:=λu hu=>by
 obtain⟨l,_,rfl⟩:=List.mem_map.1 hu;rfl
theorem zkd (ad:Addr)(n c:Nat)(l:List Nat)(w:World)(hA:zaw w w.heap.size 1 (some ad) n (ldV l))(hl:l.length=n)(hb:∀x ∈ l,x<128)(hn:n<=1048576):
  Calls prog 118 #[.slice (some ad) n c] w (ziS w n l):=by
 obtain⟨i0,m,r,s,t⟩:=info_parts infoI;have q:∀(w:World) (a:oA9) (n c n' c':Nat),(binOp .eql 44 (.slice a n c) (.slice none n' c')).run prog w=.ok (.bool a.isNone) w:=λw a n c n' c'=>Lib.run_eql_slice_nil w _ _ a n c n' c' underlying44;have j:∀o,zaw (w.alloc o) w.heap.size 1 (some ad) n (ldV l):=λo=>hA.alloc (Nat.le_refl _) o;have HL:=lh9 hl;have i:=lh9 hb;clear hl hb;go_enter func118,ntmps118;go_wp2_with (at_builtin;refine zeF _ rfl (.tmp 5) (.tmp 6) 44 rfl w.heap.size 3 i0 (.int .i64 0) 1 8 underlying44 m r s t rfl de9 (.slice (some ⟨w.heap.size,0,none⟩) 0 0) 0 [] rfl (World.ownsRow_made w #[] 0 (Nat.le_refl _) (Nat.zero_le _) rfl) _ (some ad) n c (ldV l) rfl (j _) (ldV_one _) (by unfold maxLen;omega) om9 si9 ?_;intro v' w1 d b k);have h:Below w.heap.size w w1:=((Below.refl _ w).alloc (Nat.le_refl _) _).grown b si9 (λg hg=>by simp [Value.ownBlock] at hg;omega);have f:w1.ownsRow w.heap.size 3 1 v' n (ldV l):=by simpa using d
 have G:=lh9 (zok f HL.out i.out h);clear d b k h f;go_wp2;go_ret;exact G.out
theorem zkc (c:Nat)(w:World):Calls prog 118 #[.slice none 0 c] w λe w'=>e=.returned (.slice none 0 0)/\w=w':=by
 have q:∀(w:World) (a:oA9) (n c n' c':Nat),(binOp .eql 44 (.slice a n c) (.slice none n' c')).run prog w=.ok (.bool a.isNone) w:=λw a n c n' c'=>Lib.run_eql_slice_nil w _ _ a n c n' c' underlying44;go_enter func118,ntmps118;go_wp2;go_ret;exact⟨rfl,rfl⟩
section
variable {w:World}{g n K:Nat}{e:LSt}{M:List (List Rat)}{cA cB cD:Nat}{A B D:oA9}{x0 x1 x2:Value}{qs:List Nat}
theorem zpA (h:LuS w g n e A n cA B n cB D n cD x0 x1 x2 qs)(a:LOk n n K M e)(hn:n<=64):
  Calls prog 49 #[.pointer (some ⟨g,0,none⟩)] w (ziS w n e.P):=by
 have q0:=h.blk.cell 2;have hl:=a.pl;have hb:∀x ∈ e.P,x<128:=λx hx=>by
  have:=List.mem_range.1 (a.perm.mem_iff.1 hx);omega
 have HC:Hid (Calls prog 118 #[.slice D n cD] w (ziS w n e.P)):=by
  obtain⟨A',c',e1,e2,e3,-,e4⟩:=h.perm.shape;rw [hl] at e1 e4;injection e1 with e1 _ _;subst e1;cases D with
  |none=>
    have f:n=0:=by
     rcases Nat.eq_zero_or_pos n with h0|h0
     ·exact h0
     ·obtain⟨ad,e9,_⟩:=e4 0 h0;cases e9
    subst f;exact(zkc cD w).mono λeo w' ⟨h1,h2⟩=>by
     subst h1 h2;exact⟨none,0,rfl,zly hl hb λi hi=>absurd hi (Nat.not_lt_zero i),Below.refl _ _⟩
  |some ad=>
    refine zkd ad n cD e.P w ⟨by unfold ldV;rw [List.length_map,hl,Nat.mul_one],λh0=>?_⟩ hl hb om9;obtain⟨ad2,e9,c⟩:=e4 0 h0;injection e9 with e9;subst e9;refine⟨_,rfl,by have:=World.block_lt_of_cell? w _ c;rwa [zah] at this,λj u hj=>?_⟩;have d:j<n:=by
     have:=(List.getElem?_eq_some_iff.1 hj).1;unfold ldV at this;rw [List.length_map] at this;omega
    obtain⟨ad3,e9,hc⟩:=e4 j d;injection e9 with e9;subst e9;rw [hc];unfold ldV at hj;rw [List.getElem?_map,List.getElem?_eq_getElem om9] at hj;rw [List.getD_eq_getElem?_getD,List.getElem?_eq_getElem om9];exact hj
 clear h a hl hb;go_enter func49,ntmps49;go_wp2_with fail;(with_reducible refine HC.out.mono ?_);rintro eo w2 ⟨A2,c2,rfl,b,hb⟩;have HF:Hid (ziS w n e.P (.returned (.slice A2 n c2)) w2):=⟨A2,c2,rfl,b,hb⟩;clear b hb q0 HC;go_wp2;go_ret;exact HF.out
end
open Go Go.RowKit Go.Proofs.Tryz
set_option maxHeartbeats 16000000
set_option maxRecDepth 100000
set_option linter.unusedVariables false
set_option linter.unusedSimpArgs false
def zfs (n:Nat)(e:LSt)(b:List Rat):List Rat:=(List.range n).map λk=>e.T.getD k 0*b.getD (e.P.getD k 0) 0
theorem zjO (n:Nat)(e:LSt)(b:List Rat):(zfs n e b).length=n:=by unfold zfs;simp
theorem zoX {n k:Nat}(e:LSt)(b:List Rat)(h:k<n):(zfs n e b)[k]?=some (e.T.getD k 0*b.getD (e.P.getD k 0) 0):=by
 unfold zfs;rw [List.getElem?_map,List.getElem?_range h];rfl
theorem zkP {n K Kb:Nat}{M:List (List Rat)}{e:LSt}{b:List Rat}(a:LOk n n K M e)(hM:zaY M n n)(hW:zbn K M)(hb:b.length=n)(z:zat Kb b)(c:0<K):zat (K+Kb) (zfs n e b):=λx hx=>by
 obtain⟨k,hk,rfl⟩:=List.mem_map.1 hx;have hk:=List.mem_range.1 hk;exact((a.tli hM hW hk).szq c).mul (z.at_ (by rw [hb];exact a.pn hk))
def zeD (n:Nat)(S:List (List Rat)):List (List Rat):=zbz n n λr c=>atM S c r
theorem znx {n L:Nat}{S:List (List Rat)}(h:zaO L S)(hd:zaY S n n):zaO L (zeD n S):=λrow a x hx=>by
 obtain⟨r,hr,rfl⟩:=List.mem_map.1 a;obtain⟨c,hc,rfl⟩:=List.mem_map.1 hx;exact h.at_ hd (List.mem_range.1 hc) (List.mem_range.1 hr)
theorem LOk.solIn {n K Kr K':Nat}{M:List (List Rat)}{e:LSt}{b:List Rat}(a:LOk n n K M e)(hM:zaY M n n)(hW:zbn K M)(hb:b.length=n)(z:zat Kr b)(h1:1+(n+1)*Kr<=K')(h2:K<=K'):zcz n K' (67+65*K) (aF M e) e.S (zeD n e.S) b where
 dS:=a.dims
 dC:=zbW _ _ _
 turn:=λi hi k hk=>zcW hk hi
 inv:=a.inv
 det:=a.sz.det
 ali:=λi hi j hj=>(a.ali hM hW i hi j hj).up h2
 zS:=a.msz
 zC:=znx a.msz a.dims
 len:=hb
 tli:=(zed (by rw [hb];exact Nat.le_refl n) z).1.up h1
 bli:=λi hi=>((zed (by rw [hb];exact Nat.le_refl n) z).2 _ (List.mem_of_getElem? (zbi (d:=0) om9))).up h1
section
variable {w:World}{g n m ca K Kb K':Nat}{e:LSt}{M:List (List Rat)}{b:List Rat}{cA cB cD:Nat}{A B D E:oA9}{x0 x1 x2:Value}{qs:List Nat}
theorem lu_solve (hT:zai w)(h:LuS w g n e A n cA B n cB D n cD x0 x1 x2 qs)(f:LOk n n K M e)(hM:zaY M n n)(hW:zbn K M)(hA:zaH w E n ca b)(z:zat Kb b)(hn:n<=64)(h1:1+(n+1)*(K+Kb)<=K')(h2:K<=K')(h3:67+65*K'<=500000)(t:0<K):
  Calls prog 44 #[.pointer (some ⟨g,0,none⟩),.slice E n ca] w (zdg w n (zdp n e.S (zeD n e.S) (zfs n e b))):=by
 have o:=hA.len;have N:=lh9 (f.solIn hM hW (zjO n e b) (zkP f hM hW o z t) h1 h2);have ao:=lh9 (zkP f hM hW o z t);have an:Hid (∀k,k<n->(zfs n e b)[k]?=some (e.T.getD k 0*b.getD (e.P.getD k 0) 0)):=λk hk=>zoX e b hk;have L:=lh9 (zjO n e b);have hkb:K+Kb<=K':=by
  have:K+Kb<=(n+1)*(K+Kb):=Nat.le_mul_of_pos_left _ om9;omega
 have al:Hid (∀k,k<n->e.P.getD k 0<n):=λk hk=>f.pn hk;have ar:Hid (∀k,k<n->SzQ K (e.T.getD k 0)):=λk hk=>(f.tli hM hW hk).szq t;have ah:Hid (∀k,k<n->SzQ Kb (b.getD k 0)):=λk hk=>z.at_ (by rw [o];exact hk);have ai:=lh9 f.dims;have HT:=up9 w (λw' hb=>hT.on hb);have HS:=up9 w (λw' hb=>h.below hb);have ak:=lh9 h.lt;have ag:Hid (∀gB,B=some ⟨gB,0,none⟩->gB<w.heap.size):=λgB e9=>by subst e9;obtain⟨_,cs,h9,_⟩:=h.atB (q:=gB) rfl;exact h9.lt
 have ap:=lh9 (fun(hn0:0<n)=>h.somes hn0 hn0 hn0);have HV:=lh9 hA;obtain⟨Z,hZ⟩:=zcQ n om9;have HMK:∀W,(Instr.makeSlice 61 (.int .i64 (n:Int)) (.int .i64 (n:Int))).run prog W=.ok (.slice (some ⟨W.heap.size,0,none⟩) n n) (W.alloc (.cells Z 41)):=λW=>(hZ W).1;have J:=lh9 (λW=>(hZ W).2);have i0:(0:Int)<=(n:Int):=om9;have d1:((n:Int) !=(n:Int))=false:=si9;generalize zfs n e b=RL at*;have O:=lh9 (zhp h);clear hT h f hM hW hA z o hZ;go_enter func44,ntmps44;go_wp2_with fail;(with_reducible refine O.out.mono ?_);rintro eo w2 ⟨rfl,u⟩;have d:=J.out w2;have Q:Below w2.heap.size w2 (w2.alloc (.cells Z 41)):=(Below.refl _ w2).alloc (Nat.le_refl _) _;have hB:=zaa u Q;have q1:(w2.alloc (.cells Z 41)).cell? ⟨g,2,none⟩=some (.slice D n cD):=(HS.out _ hB).blk.cell 2;have y:=u.size;rw [<-zbk 0 RL n] at d;clear Q u O;go_wp2_with fail;clear q1;generalize w2.alloc (.cells Z 41)=W2 at*;generalize w2.heap.size=g5 at*
 go_loopg [22] (n+1) (λgg ix wr=>∃(k:Nat),k<=n/\n<gg+k/\ix=.int .i64 k/\zaI wr g5 n (zbU 0 RL n k)/\Below w.heap.size w wr)
 case atStart=>exact⟨0,Nat.zero_le _,om9,rfl,d,hB⟩
 case round=>
  clear d hB;obtain⟨k,hkn,hg,rfl,d,hB⟩:=hrel;by_cases hlt:k<n
  ·have d4:decide ((k:Int)<(n:Int))=true:=decide_eq_true om9;obtain⟨gA,gB,gD,rfl,rfl,rfl⟩:=ap.out om9;have hs:=HS.out _ hB;obtain⟨rr,aa⟩:∃x,e.P.getD k 0=x:=⟨_,rfl⟩;have H:=al.out k hlt;have C:=an.out k hlt;have q0:=(hs.perm.ready hlt).1;rw [aa] at H C q0;have p1:=hs.blk.cell 1;obtain⟨br,Br,mr,dr,Er,ur,vr,t0,t1,t2,ab⟩:=hs.timeGet hlt;obtain⟨ae,bx,Bx,mx,dx,Ex,ux,vx,rfl,hael,s0,s1,s2,hx⟩:=HV.out.get hB H;have i5:(0:Int)<=(k:Int):=om9;have i6:(k:Int)<(n:Int):=om9;have i7:(0:Int)<=(rr:Int):=om9;have i8:(rr:Int)<(n:Int):=om9;have hgl:=ak.out;have hbl:=ag.out gB rfl;have U:g≠g5:=om9;have i:gB≠g5:=om9;have j:ae.block≠g5:=om9;have I:Hid (OffL g5 [(⟨g,1,none⟩,Value.slice (some ⟨gB,0,none⟩) n cB),(⟨gB,k*3,none⟩,.bool br),(⟨gB,k*3+1,none⟩,.slice Br mr dr),(⟨gB,k*3+2,none⟩,.slice Er ur vr),(ae.add (rr*3),.bool bx),((ae.add (rr*3)).add 1,.slice Bx mx dx),((ae.add (rr*3)).add 2,.slice Ex ux vx)]):=⟨U,i,i,i,by rw [zah];exact j,by rw [zah,zah];exact j,by rw [zah,zah];exact j,trivial⟩;have aq:=lh9 (ar.out k hlt);have af:=lh9 (ah.out rr H);have m:=lh9 ab;have HX:=lh9 hx;have l:=lh9 d;have HB:=lh9 hB;have aj:=lh9 C;clear hs ab hx d hB C aa;generalize e.T.getD k 0=T at*;generalize b.getD rr 0=X at*;go_wp2_with fail;have c:=(Below.refl wr.heap.size wr).drew;refine rg (csc p1 (csc t0 (csc t1 (csc t2 (csc s0 (csc s1 (csc s2 csn))))))) (λhHeld=>?_);have m:=lh9 (m.out.below c);have HX:=lh9 (HX.out.below c);have l:=lh9 (l.out.keep c);have HB:=lh9 (zaa HB.out c);clear q0 p1 t0 t1 t2 s0 s1 s2 c;generalize wr.drew=D9 at*;refine tk 0 ?_;refine tk 1 ?_;refine tk 2 ?_;refine tk 3 ?_;refine tk 4 ?_;refine tk 5 ?_;refine tk 6 ?_;refine tk 7 ?_;refine tk 8 ?_;refine tk 9 ?_;refine tk 10 ?_;refine tk 11 ?_;refine tk 12 ?_;refine rc 13 (λKK a=>?_);go_simp;(with_reducible refine(zcM (HT.out _ HB.out) m.out HX.out aq.out af.out om9 om9).mono ?_);rintro eo w3 ⟨b3,A3,n3,c3,E3,k3,f3,rfl,ac,hb⟩;refine a.out _ _ (Cs.below hHeld hb) (λhHeld=>?_);have F:=l.out.keep hb;have G:=zbm.set_ zak F hlt ac;rw [zbv 0 RL n k L.out hlt _ aj.out] at G;obtain⟨o0,o1,o2,aw,az,ax,a0,ay,a1⟩:=F.ready hlt (.bool b3) (.slice A3 n3 c3);have am:=lh9 G;have ad:=lh9 ((((zaa HB.out hb).setCell (p:=⟨g5,k*3,none⟩) y (.bool b3)).setCell (p:=⟨g5,k*3+1,none⟩) y (.slice A3 n3 c3)).setCell (p:=⟨g5,k*3+2,none⟩) y (.slice E3 k3 f3));have r:=(((zbp.refl g5 w3).set_ (k*3) (.bool b3)).set_ (k*3+1) (.slice A3 n3 c3)).set_ (k*3+2) (.slice E3 k3 f3);have s:=I.out;clear F G hb ac l a KK;refine tk 14 ?_;refine rc 15 (λKK a=>?_);go_simp;refine a.out _ _ (Cs.far hHeld r s) (λhHeld=>?_);clear a KK aw az ax a0 ay a1 r s;refine rdn ?_;clear hHeld m HX HB;go_wp2;go_roundg (n - k)
   case measure=>omega
   case rel=>exact⟨k+1,om9,om9,by go_num,am.out,ad.out⟩
  ·have av:n=k:=om9;subst av;have d4:decide ((n:Int)<(n:Int))=false:=si9;have HR:=lh9 (zbu 0 RL n L.out▸d);have HB:=lh9 hB;have q1:=(HS.out _ hB).blk.cell 0;clear d hB;go_wp2_with fail;have c:=(Below.refl wr.heap.size wr).drew;refine rg (csc q1 csn) (λhHeld=>?_);have HR:=lh9 (HR.out.keep c);have HB:=lh9 (zaa HB.out c);clear q1 c;generalize wr.drew=D9 at*;refine tk 0 ?_;refine tk 1 ?_;refine tk 2 ?_;refine tk 3 ?_;refine tk 4 ?_;refine tk 5 ?_;refine tk 6 ?_;refine tk 7 ?_;refine tk 9 ?_;refine rc 8 (λKK a=>?_);go_simp;obtain⟨-,-,hL⟩:=(HS.out _ HB.out).lines om9;(with_reducible refine(zkB hL ai.out hn).mono ?_);rintro eo w6 ⟨g6,rfl,au,V,hb⟩;refine a.out _ _ (Cs.below hHeld hb) (λhHeld=>?_);have HR:=lh9 (HR.out.keep hb);have HB:=lh9 (zaa HB.out hb);have HC:=lh9 V.rows;clear a KK hb V au hL;refine rc 10 (λKK a=>?_);go_simp;obtain⟨-,-,hL⟩:=(HS.out _ HB.out).lines om9;(with_reducible refine(zin (HT.out _ HB.out) hL HC.out (zaR HR.out) ao.out N.out hn om9 h3 om9 om9).mono ?_);rintro eo w7 ⟨g7,rfl,R,Y,hb⟩;refine a.out _ _ (Cs.below hHeld hb) (λhHeld=>?_);have HF:Hid (zdg w n (zdp n e.S (zeD n e.S) RL) (.returned (.tuple #[.slice (some ⟨g7,0,none⟩) n n,.bool true])) w7):=⟨g7,rfl,Nat.le_trans HB.out.size R,Y,zaa HB.out hb⟩;clear a KK hb Y R hL HR HB HC;refine tk 11 ?_;refine tk 12 ?_;refine rdn ?_;clear hHeld;go_wp2;refine bodyPost_ret (v:=.tuple #[.slice (some ⟨g7,0,none⟩) n n,.bool true]) (by simp [results,results44,go_sem]) rfl ?_;exact HF.out
end
open Go Go.RowKit Go.Proofs.Tryz
set_option maxHeartbeats 16000000
set_option linter.unusedVariables false
section
variable {n K:Nat}{M:List (List Rat)}{e:LSt}
theorem LOk.nd (h:LOk n n K M e):e.P.Nodup:=h.perm.nodup_iff.2 List.nodup_range
theorem LOk.inj (h:LOk n n K M e){i j:Nat}(hi:i<n)(hj:j<n)(e9:e.P.getD i 0=e.P.getD j 0):i=j:=by
 have hl:=h.pl;refine zkG h.nd om9 om9 ?_;rw [List.getD_eq_getElem?_getD,List.getElem?_eq_getElem om9,List.getD_eq_getElem?_getD,List.getElem?_eq_getElem om9] at e9;exact e9
theorem LOk.product (h:LOk n n K M e){r c:Nat}(hr:r<n)(hc:c<n):zav n (λk=>zdi e r k*zdm e k c)=atM M (e.P.getD r 0) c:=by
 have ht:=h.tne hr;have h1:=h.inv.all hr hc;have e1:zav n (λk=>zdi e r k*zdm e k c)=(e.T.getD r 0)⁻¹*zav n λk=>if k<=r/\k<=c then tmF (atM e.S) r c k else 0:=by
  rw [zaZ];refine zal λk hk=>?_;have h2:=h.inv.ne k hk;have h3:=h.inv.pr (k:=k) om9;have h4:=h.tne hk;unfold zdi zdm;by_cases q1:r<k
  ·rw [if_pos q1,Rat.zero_mul,if_neg (by omega:¬(k<=r/\k<=c)),Rat.mul_zero]
  ·rw [if_neg q1];by_cases q2:c<k
   ·rw [if_pos q2,Rat.mul_zero,if_neg (by omega:¬(k<=r/\k<=c)),Rat.mul_zero]
   ·rw [if_neg q2,if_pos om9];unfold tmF
    grind
 rw [e1,<-h1];unfold aF
 grind
theorem LOk.low1 (h:LOk n n K M e){r:Nat}(hr:r<n):zdi e r r=1:=by
 have h1:=h.inv.ne r hr;have h2:=h.tne hr;unfold zdi;rw [if_neg om9];grind
theorem LOk.upp1 (h:LOk n n K M e){r:Nat}(hr:r<n):zdm e r r≠0:=by
 have h1:=h.inv.ne r hr;have h2:=h.tne hr;have h3:=h.inv.pr (k:=r) om9;unfold zdm;rw [if_neg om9];intro e9;apply h1
 grind
end
