/- What this claim leans on. -/
import Derived.Test.YtghpdeciaaagnaaGreatDoorQMMul
namespace Go.Proofs.YtghpdeciaaagnaaGreatDoor
open Go Go.RowKit Go.Proofs.Tryz
set_option maxHeartbeats 16000000
set_option maxRecDepth 100000
set_option linter.unusedVariables false
set_option linter.unusedSimpArgs false
theorem zkD (z:Int)(w:World):Calls prog 193 #[.int .i64 z] w (λe w'=>e=.returned (.bool false)/\w=w'):=by
 have h1:(z !=z)=false:=si9;go_enter func193,ntmps193;go_wp2;go_ret;exact⟨rfl,rfl⟩
theorem zmp (n m:Nat)(w:World):Calls prog 156 #[.int .i64 (n:Int),.int .i64 (m:Int)] w (λe w'=>e=.returned (.int .i64 (cmpN n m))/\w=w'):=by
 have H1:=lh9 (zkD (n:Int) w);have H2:=lh9 (zkD (m:Int) w);unfold cmpN;by_cases h1:n<m
 ·have hd:decide ((n:Int)<(m:Int))=true:=decide_eq_true om9;have a:decide (n<m)=true:=decide_eq_true om9;rw [if_pos h1];go_enter func156,ntmps156;go_wp2_with fail;refine H1.out.mono ?_;rintro e w1 ⟨rfl,rfl⟩;go_wp2_with fail;refine H2.out.mono ?_;rintro e w1 ⟨rfl,rfl⟩;go_wp2;go_ret;exact⟨rfl,rfl⟩
 ·have hd:decide ((n:Int)<(m:Int))=false:=decide_eq_false om9;have a:decide (n<m)=false:=decide_eq_false om9;rw [if_neg h1];by_cases h2:n=m
  ·rw [if_pos h2];have b:decide ((m:Int)<(n:Int))=false:=decide_eq_false om9;have c:decide ((n:Int)>(m:Int))=false:=decide_eq_false om9;have d:decide (m<n)=false:=decide_eq_false om9;clear h1 h2;go_enter func156,ntmps156;go_wp2_with fail;refine H1.out.mono ?_;rintro e w1 ⟨rfl,rfl⟩;go_wp2_with fail;refine H2.out.mono ?_;rintro e w1 ⟨rfl,rfl⟩;go_wp2;go_ret;exact⟨rfl,rfl⟩
  ·rw [if_neg h2];have b:decide ((m:Int)<(n:Int))=true:=decide_eq_true om9;have c:decide ((n:Int)>(m:Int))=true:=decide_eq_true om9;have d:decide (m<n)=true:=decide_eq_true om9;clear h1 h2;go_enter func156,ntmps156;go_wp2_with fail;refine H1.out.mono ?_;rintro e w1 ⟨rfl,rfl⟩;go_wp2_with fail;refine H2.out.mono ?_;rintro e w1 ⟨rfl,rfl⟩;go_wp2;go_ret;exact⟨rfl,rfl⟩
section
variable {K K':Nat}{xs ys:List Rat}{A B:oA9}{n n' c d:Nat}{w:World}
theorem zrx {z:Int}(hz:zfk xs ys=z)(hT:zai w)(ha:zaH w A n c xs)(hb:zaH w B n' d ys)(hx:zat K xs)(hy:zat K' ys)(hn:n<=1073741824:=by omega)(hn':n'<=1073741824:=by omega)(hK:K<=67108864:=by omega)(E:K'<=67108864:=by omega):
  Calls prog 119 #[.slice A n c,.slice B n' d] w (zcL w z):=by
 have I:=ha.len;have J:=hb.len;have G:=lh9 I;have H:=lh9 J;have HZ:=lh9 hz;have C:Hid (∀i,i<n->SzQ K (xs.getD i 0)):=λi hi=>hx.at_ om9;have D:Hid (∀i,i<n'->SzQ K' (ys.getD i 0)):=λi hi=>hy.at_ om9;unfold zcL;have HA:=lh9 ha;have Q:=lh9 hb;have HT:=up9 w (λw' hb=>hT.on hb);clear hT ha hb hx hy I J hz;have hB:=Below.refl w.heap.size w;have i0:(0:Int)<=(n:Int):=om9;obtain⟨N,hN⟩:∃N,min n n'=N:=⟨_,rfl⟩;have hNn:N<=n:=om9;have hNm:N<=n':=om9;have HN:=lh9 hN;have L:min (n:Int) (n':Int)=(N:Int):=om9;have M:(if (n':Int)<(n:Int) then(n':Int) else(n:Int))=(N:Int):=by split<;>omega
 have O:(if n'<n then(n':Int) else(n:Int))=(N:Int):=by split<;>omega
 clear hN;go_enter func119,ntmps119;go_wp2_with fail;clear L M O
 go_loopg [11] (N+1) (λg ix wr=>∃(k:Nat),k<=N/\N<g+k/\ix=.int .i64 k/\Hid (zfk (xs.drop k) (ys.drop k)=z)/\Below w.heap.size w wr)
 case atStart=>exact⟨0,Nat.zero_le _,om9,rfl,HZ,hB⟩
 case round=>
  clear hB;obtain⟨k,hkn,hg,rfl,F,hB⟩:=hrel;by_cases hlt:k<N
  ·have h:k<n:=om9;have f:k<n':=om9;obtain⟨ad,b1,B1,m1,d1,E1,u1,v1,rfl,-,m,o,r,hx⟩:=HA.out.get hB h;obtain⟨ae,b2,B2,m2,d2,E2,u2,v2,rfl,-,s,t,u,hy⟩:=Q.out.get hB f;have U:decide ((k:Int)<(N:Int))=true:=decide_eq_true om9;have i1:(0:Int)<=(k:Int):=om9;have i2:(k:Int)<(n:Int):=om9;have i3:(k:Int)<(n':Int):=om9;have HX:=lh9 hx;have HY:=lh9 hy;have j:=lh9 hB;have v:k<xs.length:=by have:=G.out;omega
   have y:k<ys.length:=by have:=H.out;omega
   clear hx hy hB;by_cases h0:xs.getD k 0=ys.getD k 0
   ·have HQ:=lh9 (decide_eq_true h0);have T:Hid (zfk (xs.drop (k+1)) (ys.drop (k+1))=z):=by
     show _=_;rw [<-zjd v y h0];exact F.out
    clear h0 v y;go_wp2_with fail;have a:=(Below.refl wr.heap.size wr).drew;refine rg (csc m (csc o (csc r (csc s (csc t (csc u csn)))))) (λhHeld=>?_);refine tk 0 ?_;refine tk 1 ?_;refine tk 2 ?_;refine tk 3 ?_;refine tk 4 ?_;refine tk 5 ?_;refine tk 6 ?_;refine tk 7 ?_;refine rc 8 (λKK b=>?_);go_simp;(with_reducible refine(q_same HQ.out (HT.out _ (zaa j.out a)) (HX.out.below a) (HY.out.below a) (C.out k h) (D.out k f) hK E).mono ?_);rintro e wa ⟨rfl,hb⟩;have a:=zaa a hb;refine b.out _ _ (Cs.below hHeld hb) (λhHeld=>?_);clear b KK hb;refine tk 9 ?_;refine rdn ?_;have l:=lh9 (zaa j.out a);clear hHeld a m o r s t u HX HY j;go_wp2;go_roundg (N - k)
    case measure=>omega
    case rel=>exact⟨k+1,om9,om9,by go_num,T,l.out⟩
   ·have HQ:=lh9 (decide_eq_false h0);have HF:Hid (zgA (xs.getD k 0) (ys.getD k 0)=z):=by
     show _=_;rw [<-ziy v y h0];exact F.out
    clear h0 v y;go_wp2_with fail;have a:=(Below.refl wr.heap.size wr).drew;refine rg (csc m (csc o (csc r (csc s (csc t (csc u csn)))))) (λhHeld=>?_);refine tk 0 ?_;refine tk 1 ?_;refine tk 2 ?_;refine tk 3 ?_;refine tk 4 ?_;refine tk 5 ?_;refine tk 6 ?_;refine tk 7 ?_;refine rc 8 (λKK b=>?_);go_simp;(with_reducible refine(q_same HQ.out (HT.out _ (zaa j.out a)) (HX.out.below a) (HY.out.below a) (C.out k h) (D.out k f) hK E).mono ?_);rintro e wa ⟨rfl,hb⟩;have a:=zaa a hb;refine b.out _ _ (Cs.below hHeld hb) (λhHeld=>?_);clear b KK hb;refine tk 9 ?_;refine rdn ?_;have l:=lh9 (zaa j.out a);have R:=lh9 (HX.out.below a);have S:=lh9 (HY.out.below a);obtain⟨c0,c1,c2,e0,e1,e2,-⟩:=hHeld;clear a m o r s t u HX HY j;go_wp2_with fail;have a:=(Below.refl wa.heap.size wa).drew;refine rg (csc c0 (csc c1 (csc c2 (csc e0 (csc e1 (csc e2 csn)))))) (λhHeld=>?_);refine tk 0 ?_;refine tk 1 ?_;refine tk 2 ?_;refine tk 3 ?_;refine tk 4 ?_;refine tk 5 ?_;refine tk 6 ?_;refine tk 7 ?_;refine rc 8 (λKK b=>?_);go_simp;(with_reducible refine(zcu HF.out (q_cmp (HT.out _ (zaa l.out a)) (R.out.below a) (S.out.below a) (C.out k h) (D.out k f) hK E)).mono ?_);rintro e wb ⟨rfl,hb⟩;have a:=zaa a hb;refine b.out _ _ (Cs.below hHeld hb) (λhHeld=>?_);clear b KK hb;refine tk 9 ?_;refine rdn ?_;have P:=lh9 (zaa l.out a);clear hHeld a c0 c1 c2 e0 e1 e2;go_wp2;go_ret;exact⟨rfl,P.out⟩
  ·have hk:k=N:=om9;subst hk;have U:decide ((k:Int)<(k:Int))=false:=si9;have HF:Hid (cmpN n n'=z):=by
    have h1:=G.out;have h2:=H.out;have h3:=HN.out;have h4:=F.out;rw [cmpV_end (by rw [h1,h2];exact h3.symm),h1,h2] at h4;exact h4
   have l:=lh9 hB;have H1:=lh9 (zmp n n' wr);rw [HF.out] at H1;clear hB;go_wp2_with fail;refine H1.out.mono ?_;rintro e w1 ⟨rfl,rfl⟩;go_wp2;go_ret;exact⟨rfl,l.out⟩
theorem zeq {t:Bool}(e:decide (xs=ys)=t)(hT:zai w)(ha:zaH w A n c xs)(hb:zaH w B n' d ys)(hx:zat K xs)(hy:zat K' ys)(hn:n<=1073741824:=by omega)(b:n'<=1073741824:=by omega)(hK:K<=67108864:=by omega)(a:K'<=67108864:=by omega):
  Calls prog 50 #[.slice A n c,.slice B n' d] w (λe w'=>e=.returned (.bool t)/\Below w.heap.size w w'):=by
 obtain⟨z,hz⟩:∃z,zfk xs ys=z:=⟨_,rfl⟩;have H:=lh9 (zrx hz hT ha hb hx hy hn b hK a);have ht:(z==0)=t:=by
  rw [<-e,<-hz];by_cases h:xs=ys
  ·rw [decide_eq_true h,(zlq xs ys).2 h];rfl
  ·rw [decide_eq_false h,beq_eq_false_iff_ne];exact λh9=>h ((zlq xs ys).1 h9)
 clear hz hT ha hb hx hy e;have HE:=lh9 ht;clear ht;go_enter func50,ntmps50;go_wp2_with fail;refine H.out.mono ?_;rintro e w1 ⟨rfl,hb⟩;go_wp2;go_ret;exact⟨by rw [<-HE.out];rfl,hb⟩
end
section
variable {α:Type}{E:El α}
theorem zaM.cells {w:World}{ad:Addr}{n c:Nat}{xs:List α}(h:zaM E w (some ad) n c xs):∃a:List Value,a.length=n*3/\(∀j u,a[j]?=some u->w.cell? (ad.add j)=some u)/\(∀u ∈ a,u.oneCell'=true)/\(∀u ∈ a,zgM u)/\
  ∀i x,xs[i]?=some x->∃(b:Bool) (B:oA9) (m d:Nat) (F:oA9) (u f:Nat),a[i*3]?=some (.bool b)/\a[i*3+1]?=some (.slice B m d)/\a[i*3+2]?=some (.slice F u f)/\E w x b B m d F u f:=by
 have hl:=h.len;have hc:∀j,j<n*3->∃u,w.cell? (ad.add j)=some u/\u.oneCell'=true/\zgM u:=λj hj=>by
  have hi:j / 3<n:=om9;obtain⟨l,b,B,m,d,F,u,v,e,h1,h2,h3,h4,h5⟩:=h.num (j / 3) _ (List.getElem?_eq_getElem om9);injection e with e;subst e;have o:j%3=0\/j%3=1\/j%3=2:=om9;rcases o with h9|h9|h9
  ·exact⟨.bool b,by rw [show j=j / 3*3 by omega];exact h2,rfl,λk z e=>by cases e⟩
  ·exact⟨.slice B m d,by rw [show j=j / 3*3+1 by omega];exact h3,rfl,λk z e=>by cases e⟩
  ·exact⟨.slice F u v,by rw [show j=j / 3*3+2 by omega];exact h4,rfl,λk z e=>by cases e⟩
 have hg:∀j u,j<n*3->w.cell? (ad.add j)=some u->((List.range (n*3)).map λj=>(w.cell? (ad.add j)).getD (.bool false))[j]?=some u:=λj u hj hu=>by
  rw [List.getElem?_map,List.getElem?_range hj];show some ((w.cell? (ad.add j)).getD (.bool false))=some u;rw [hu];rfl
 refine⟨(List.range (n*3)).map λj=>(w.cell? (ad.add j)).getD (.bool false),si9,λj u hj=>?_,λu hu=>?_,λu hu=>?_,λi x hi=>?_⟩
 ·have g:j<n*3:=by
   have:=(List.getElem?_eq_some_iff.1 hj).1;simpa using this
  obtain⟨u',h1,-,-⟩:=hc j g;rw [hg j u' g h1] at hj;injection hj with hj;rw [<-hj];exact h1
 ·obtain⟨j,hj,rfl⟩:=List.mem_map.1 hu;obtain⟨u',h1,h2,-⟩:=hc j (List.mem_range.1 hj);rw [h1];exact h2
 ·obtain⟨j,hj,rfl⟩:=List.mem_map.1 hu;obtain⟨u',h1,-,h2⟩:=hc j (List.mem_range.1 hj);rw [h1];exact h2
 ·have g:=(List.getElem?_eq_some_iff.1 hi).1;obtain⟨l,b,B,m,d,F,u,v,e,h1,h2,h3,h4,h5⟩:=h.num i x hi;injection e with e;subst e;exact⟨b,B,m,d,F,u,v,hg _ _ om9 h2,hg _ _ om9 h3,hg _ _ om9 h4,h5⟩
theorem zcc.copied (hE:zco E){w w':World}{c n:Nat}{t:TypeId}{v':Value}{xs:List α}{a:List Value}(hl:xs.length=n)
  (g:∀i x,xs[i]?=some x->∃(b:Bool) (B:oA9) (m d:Nat) (F:oA9) (u f:Nat),a[i*3]?=some (.bool b)/\a[i*3+1]?=some (.slice B m d)/\a[i*3+2]?=some (.slice F u f)/\E w x b B m d F u f)
  (ho:w'.ownsRow c t 3 v' (0+n) ([]++a)) (hg:w.grownBy w' none) (hn:zbD w' v'):zcc E w' c t v' xs a:=by
 rw [Nat.zero_add,List.nil_append] at ho;refine⟨by rw [hl];exact ho,hn,λi x hi=>?_⟩;obtain⟨b,B,m,d,F,u,f,h1,h2,h3,h4⟩:=g i x hi;exact⟨b,B,m,d,F,u,f,h1,h2,h3,hE.below h4 (zaX hg)⟩
end
theorem zkS {P:Program}(w:World)(dT sT ty d:TypeId)(g o c h:Nat)(a:Addr)(f m:Nat)(b:Array Value)(t:TypeId)(cs:List Value)
  (hu:P.underlying dT=some (.slice d)) (hs:(P.info? d).map (·.size)=some 3)
  (hg:w.heap[g]?=some (.cells b t (0,0))) (hn:cs.length=Nat.min f c*3)
  (l:∀j v,cs[j]?=some v->w.cell? (a.add j)=some v) (k:o+cs.length<=b.size) (h1:∀v ∈ cs,v.oneCell'=true):
  (Builtin.copy_ #[dT,sT] ty #[.slice (some ⟨g,o,none⟩) c h,.slice (some a) f m]).run P w =
    .ok (goInt (Nat.min f c)) (w.setRow g (b.toList.take o++cs++b.toList.drop (o+cs.length)).toArray):=by
 have hl:=run_loadCells_list (P:=P) w a cs l;have n:=run_storeCells_at P g o t cs 0 b w hg (by simpa using k) h1;cases hq:P.info? d with
 |none=>simp [hq] at hs
 |some i=>
   have hi:i.size=3:=by simpa [hq] using hs
   simp [Builtin.copy_,run_underlying hu,Builtin.lenOf,Builtin.firstCells,sizeOf,typeInfo,hq,hi,<-hn,hl,n]
theorem zaI.copied {w:World}{q n c1 k g9 d:Nat}{L zs:List Rat}(hv:zaI w q n L)(hz:zaI w g9 k zs)(hk:c1+k=n)(hn9:n<=1048576)(dT sT ty:TypeId)(hu:prog.underlying dT=some (.slice 41)):
  ∃w',(Builtin.copy_ #[dT,sT] ty #[.slice (some ⟨q,c1*3,none⟩) k d,.slice (some ⟨g9,0,none⟩) k k]).run prog w=.ok (goInt k) w'/\zaK q w w'/\zaI w' q n (L.take c1++zs)/\(∀j,j<c1*3->w'.cell? ⟨q,j,none⟩=w.cell? ⟨q,j,none⟩)/\∀(w0:World) (B0:Nat),B0<=q->Below B0 w0 w->Below B0 w0 w':=by
 obtain⟨i0,y,hz0,A,hz2⟩:=info_parts zhR;obtain⟨cs,a,o,hsz⟩:=hv.blk;obtain⟨vs,v1,v2,v3,v4,v5⟩:=zaM.cells (zaR hz);have g:Nat.min k k=k:=Nat.min_self k;have hr:=zkS (P:=prog) w dT sT ty 41 q (c1*3) k d ⟨g9,0,none⟩ k k cs 41 vs hu (by rw [y];simp [A]) a (by rw [g];exact v1) v2 om9 v3;rw [g] at hr;have r:cs.toList.length=n*3:=by rw [Array.length_toList];exact hsz
 obtain⟨new,l⟩:∃new,(cs.toList.take (c1*3)++vs++cs.toList.drop (c1*3+vs.length)).toArray=new:=⟨_,rfl⟩;rw [l] at hr;have ht:zaK q w (w.setRow q new):=zaK.row a;have c:Blk (w.setRow q new) q 41 new:=setRow_heap w q cs new _ _ a;have f:new.toList=cs.toList.take (c1*3)++vs:=by
  rw [<-l];show _++_++_=_;rw [List.drop_eq_nil_of_le om9,List.append_nil]
 have s:(cs.toList.take (c1*3)).length=c1*3:=by rw [List.length_take,r];omega
 have a1:∀j,j<c1*3->new[j]?=cs[j]?:=λj hj=>by
  rw [<-Array.getElem?_toList,f,List.getElem?_append_left om9,List.getElem?_take,if_pos hj,Array.getElem?_toList]
 have a2:∀j,new[c1*3+j]?=vs[j]?:=λj=>by
  rw [<-Array.getElem?_toList,f,List.getElem?_append_right om9,s,show c1*3+j - c1*3=j by omega]
 have hc:∀j,j<c1*3->(w.setRow q new).cell? ⟨q,j,none⟩=w.cell? ⟨q,j,none⟩:=λj hj=>by rw [c.cell,a.cell,a1 j hj]
 refine⟨_,hr,ht,⟨by rw [List.length_append,List.length_take,hv.len,hz.len];omega,⟨new,c,?_,?_⟩,λi x hi=>?_⟩,hc,λw0 B0 hB hb=>hb.trans ⟨rfl,rfl,rfl,si9,λk hk=>setRow_other w q k new om9⟩⟩
 ·intro u t k9 z9;rw [f] at t;rcases List.mem_append.1 t with h|h
  ·exact o u (List.mem_of_mem_take h) k9 z9
  ·exact v4 u h k9 z9
 ·rw [<-Array.length_toList,f,List.length_append,s,v1];omega
 ·have z:(L.take c1).length=c1:=by rw [List.length_take,hv.len];omega
  by_cases hlt:i<c1
  ·rw [List.getElem?_append_left om9,List.getElem?_take,if_pos hlt] at hi;obtain⟨b,B,m,d',F,u,v,h1,h2,h3,h4⟩:=hv.num i x hi;exact⟨b,B,m,d',F,u,v,(hc _ om9).trans h1,(hc _ om9).trans h2,(hc _ om9).trans h3,zaz a (zaG o) ht.1 h4⟩
  ·rw [List.getElem?_append_right om9,z] at hi;obtain⟨b,B,m,d',F,u,v,h1,h2,h3,h4⟩:=v5 _ x hi;refine⟨b,B,m,d',F,u,v,?_,?_,?_,zaz a (zaG o) ht.1 h4⟩
   ·rw [c.cell,show i*3=c1*3+(i - c1)*3 by omega,a2];exact h1
   ·rw [c.cell,show i*3+1=c1*3+((i - c1)*3+1) by omega,a2];exact h2
   ·rw [c.cell,show i*3+2=c1*3+((i - c1)*3+2) by omega,a2];exact h3
theorem zfz {P:Program}{w w':World}{o:Oper}{a:Act}{K:Act->World->Prop}{Q:Exit->Act->World->Prop}(s x:Operand)(dT sT:TypeId){v u r:Value}
  (ho:o.op=.call {callee:=.builtin .copy,args:=#[s,x],argTypes:=#[dT,sT]}) (hs:a.eval s=v) (hx:a.eval x=u) (hr:(Builtin.copy_ #[dT,sT] o.type #[v,u]).run P w=.ok r w') (h:K (a.put o.dst r) w'):Oper.wp P o a w K Q:=by
 unfold Oper.wp execOp;simp only [ho,resolve,invoke,builtin,Sem.run_bind,Sem.run_pure,Result.andThen_ok,List.map_toArray,List.map_cons,List.map_nil,hs,hx,hr];exact h
def zbH (c:Nat)(S:List (List Rat))(i:Nat):List (List Rat):=S.mapIdx λj row=>if c<j/\j<c+1+i then zbG c (prF (atM S) c) row (S.getD c []) else row
theorem zel {c i j:Nat}{S:List (List Rat)}(hj:j<S.length):(zbH c S i)[j]?=some (if c<j/\j<c+1+i then zbG c (prF (atM S) c) (S.getD j []) (S.getD c []) else S.getD j []):=by
 unfold zbH;rw [List.getElem?_mapIdx,List.getElem?_eq_getElem hj];show some (if c<j/\j<c+1+i then _ else _)=_;rw [show S.getD j []=S[j] by rw [List.getD_eq_getElem?_getD,List.getElem?_eq_getElem hj];rfl]
theorem zjs {c i j:Nat}{S:List (List Rat)}(hj:j<S.length):(zbH c S i).getD j []=if c<j/\j<c+1+i then zbG c (prF (atM S) c) (S.getD j []) (S.getD c []) else S.getD j []:=by
 rw [List.getD_eq_getElem?_getD,zel hj];rfl
theorem zdr (c:Nat)(S:List (List Rat))(i:Nat):(zbH c S i).length=S.length:=by unfold zbH;rw [List.length_mapIdx]
theorem zim (c:Nat)(S:List (List Rat)):zbH c S 0=S:=by
 apply List.ext_getElem?;intro j;by_cases hj:j<S.length
 ·rw [zel hj,if_neg om9,zbi (d:=[]) hj]
 ·rw [List.getElem?_eq_none (by rw [zdr];omega),List.getElem?_eq_none om9]
theorem zjr {c n:Nat}{S:List (List Rat)}(hn:S.length=n){i:Nat}(hi:n<=c+1+i):zbH c S i=zcD c S:=by
 apply List.ext_getElem?;intro j;by_cases hj:j<S.length
 ·rw [zel hj,zbi (d:=[]) (by unfold zcD;rw [List.length_mapIdx];exact hj:j<(zcD c S).length),zhS hj];by_cases e:c<j
  ·rw [if_pos e,if_pos ⟨e,om9⟩]
  ·rw [if_neg e,if_neg λx=>e x.1]
 ·rw [List.getElem?_eq_none (by rw [zdr];omega),List.getElem?_eq_none (by unfold zcD;rw [List.length_mapIdx];omega)]
theorem zou {c i:Nat}{S:List (List Rat)}(hi:c+1+i<S.length):(zbH c S i).set (c+1+i) (zbG c (prF (atM S) c) (S.getD (c+1+i) []) (S.getD c []))=zbH c S (i+1):=by
 apply List.ext_getElem?;intro j;by_cases hj:j<S.length
 ·rw [zel hj,List.getElem?_set,zel hj];by_cases e:c+1+i=j
  ·subst e;rw [if_pos rfl,if_pos (by rw [zdr];exact hi),if_pos ⟨om9,om9⟩]
  ·rw [if_neg e];by_cases e2:c<j/\j<c+1+i
   ·rw [if_pos e2,if_pos ⟨e2.1,om9⟩]
   ·rw [if_neg e2,if_neg λx=>e2 ⟨x.1,om9⟩]
 ·rw [List.getElem?_eq_none (by rw [List.length_set,zdr];omega),List.getElem?_eq_none (by rw [zdr];omega)]
theorem zgS {c i j:Nat}{S:List (List Rat)}(hj:j<S.length)(h:j<=c):(zbH c S i).getD j []=S.getD j []:=by rw [zjs hj,if_neg om9]
theorem zqC {c i n:Nat}{S:List (List Rat)}(hn:S.length=n)(hc:c<n):prF (atM (zbH c S i)) c=prF (atM S) c:=by
 unfold prF
 split
 ·rfl
 ·unfold atM;rw [zgS om9 om9]
theorem zqB {c i n:Nat}{S:List (List Rat)}(hn:S.length=n)(hc:c<n):atM (zbH c S i) c c=atM S c c:=by unfold atM;rw [zgS om9 (Nat.le_refl c)]
theorem zmM {c i n:Nat}{S:List (List Rat)}(h:zaY S n n)(hc:c<n):zaY (zbH c S i) n n:=by
 refine⟨by rw [zdr];exact h.rows,λL hL=>?_⟩;unfold zbH at hL;obtain⟨j,hj,rfl⟩:=List.mem_mapIdx.1 hL
 split
 ·exact zez (h.cols _ (List.getElem_mem _)) (h.row hc) hc
 ·exact h.cols _ (List.getElem_mem _)
theorem zot {c c1:Nat}{p:Rat}{row by_:List Rat}(hc:c+1=c1):zbG c p row by_=row.take c1++zau p⁻¹ (zdn (zau (by_.getD c 0) (row.drop c1)) (-row.getD c 0) (by_.drop c1)):=by subst hc;rfl
theorem zhp {w:World}{g m:Nat}{e:LSt}{n cA:Nat}{k cB:Nat}{l cD:Nat}{A B D:oA9}{x0 x1 x2:Value}{qs:List Nat}(h:LuS w g m e A n cA B k cB D l cD x0 x1 x2 qs):
  Calls prog 42 #[.pointer (some ⟨g,0,none⟩)] w (λeo w'=>eo=.returned (.int .i64 (n:Int))/\Below w.heap.size w w'):=by
 have q0:=h.blk.cell 0;have HB:=lh9 (Below.refl w.heap.size w);clear h;go_enter func42,ntmps42;go_wp2;go_ret;exact⟨rfl,HB.out⟩
theorem zoe:∀(args:Array Value) (w':World),Sem.run prog (callFunc 173 args) w'=.ok (.enter 173 args) w':=Go.Proofs.enters_of func173 kr9 rfl
section
variable {w:World}{Q:oA9}{n q m gc:Nat}{S:List (List Rat)}
theorem znT {r c:Nat}(hk:Blk w gc 26 #[.slice Q n q])(h:zaC (zaM zaf) w Q n S)(hd:zaY S n m)(hr:r<n)(hc:c<m):
  Calls prog 173 (#[.int .i64 (c:Int),.int .i64 (r:Int)]++#[.pointer (some ⟨gc,0,none⟩)]) w (zaE w (atM S r c)):=by
 show Calls _ _ #[.int .i64 (c:Int),.int .i64 (r:Int),.pointer (some ⟨gc,0,none⟩)] _ _;obtain⟨a,f,-⟩:=zax w 41 #[.bool false,.slice none 0 0,.slice none 0 0];have g0:=(zab a hk).c1;obtain⟨ad,C,d,rfl,-,h0,hv⟩:=h.get (zaA zak) (Below.refl _ _) hr (hd.row hr);have hv:zaH w C m d (S.getD r []):=hv;obtain⟨ae,b1,B1,m1,d1,E1,u1,v1,rfl,-,q0,q1,q2,hx⟩:=hv.get (Below.refl _ _) hc;have hx:zaf w (atM S r c) b1 B1 m1 d1 E1 u1 v1:=hx;obtain⟨h0,q0,q1,q2⟩:=zac4 a h0 q0 q1 q2;have i1:(0:Int)<=(r:Int):=om9;have i2:(r:Int)<(n:Int):=om9;have i3:(0:Int)<=(c:Int):=om9;have i4:(c:Int)<(m:Int):=om9;obtain⟨sc0,sf0,sc1,sf1,sc2,sf2⟩:=st3 f (.bool b1) (.slice B1 m1 d1);obtain⟨b,g,-⟩:=zax w 41 #[.bool b1,.slice B1 m1 d1,.slice E1 u1 v1];obtain⟨r0,r1,r2⟩:=g.c3;have HG:Hid (zaE w (atM S r c) (.returned (.agg #[.bool b1,.slice B1 m1 d1,.slice E1 u1 v1])) (w.alloc (.cells #[.bool b1,.slice B1 m1 d1,.slice E1 u1 v1] 41))):=⟨_,_,_,_,_,_,_,rfl,hx.below b,b⟩;clear hk h hd a f hv hx b g;go_enter func173,ntmps173;go_wp2;refine bodyPost_ret (v:=.agg #[.bool b1,.slice B1 m1 d1,.slice E1 u1 v1]) (by simp [results,results173,go_sem,r0,r1,r2]) rfl ?_;exact HG.out
theorem zkB (h:zaC (zaM zaf) w Q n S)(hd:zaY S n n)(hn:n<=64):
  Calls prog 113 #[.slice Q n q] w (zdZ w n (zbz n n λr c=>atM S c r)):=by
 obtain⟨a,b,-⟩:=zax w 26 #[.slice Q n q];have g0:=b.c1;have HG:Hid (zdX (λr c=>atM S c r) 173 #[.pointer (some ⟨w.heap.size,0,none⟩)] n n (w.alloc (.cells #[.slice Q n q] 26))):=⟨zoe,λr c hr hc w' hb=>znT (zab hb b) (h.below (zaA zak) (zaa a hb)) hd hc hr⟩;have HB:=lh9 a;clear h hd a b;go_enter func113,ntmps113;go_wp2_with fail;(with_reducible refine(zkA (λr c=>atM S c r) _ _ n _ HG.out hn).mono ?_);rintro eo w2 ⟨g2,rfl,d,f,hb⟩;have HF:Hid (zdZ w n (zbz n n λr c=>atM S c r) (.returned (.slice (some ⟨g2,0,none⟩) n n)) w2):=⟨g2,rfl,Nat.le_trans HB.out.size d,f,zaa HB.out hb⟩;clear hb d f g0;go_wp2;go_ret;exact HF.out
end
def zcd (S C:List (List Rat))(x0:List Rat):Nat->List Rat
 |0=>x0
 |k+1=>zbG k (prF (atM S) k) (zcd S C x0 k) (C.getD k [])
def bwX (n:Nat)(S:List (List Rat))(D:Rat)(x:List Rat):Nat->List Rat
 |0=>[]
 |d+1=>((D*x.getD (n - (d+1)) 0 - zdY ((S.getD (n - (d+1)) []).drop (n - d)) (bwX n S D x d)) / atM S (n - (d+1)) (n - (d+1)))::bwX n S D x d
def zdp (n:Nat)(S C:List (List Rat))(b:List Rat):List Rat:=zau (prF (atM S) n*zao b)⁻¹ (bwX n S (prF (atM S) n) (zcd S C (zau (zao b) b) n) n)
structure zcz (n K L:Nat)(a:Nat->Nat->Rat)(S C:List (List Rat))(b:List Rat):Prop where
 dS:zaY S n n
 dC:zaY C n n
 turn:∀i,i<n->∀k,k<n->atM C k i=atM S i k
 inv:zdR n n a (atM S)
 det:prF (atM S) n=zaJ n a
 ali:∀i,i<n->∀j,j<n->LI K (a i j)
 zS:zaO L S
 zC:zaO L C
 len:b.length=n
 tli:LI K (zao b)
 bli:∀i,i<n->LI K (zao b*b.getD i 0)
theorem zhg (n:Nat)(S:List (List Rat))(D:Rat)(x:List Rat):∀d,(bwX n S D x d).length=d
 |0=>rfl
 |d+1=>by show(_::_).length=_;rw [List.length_cons,zhg n S D x d]
theorem bwX_at {n:Nat}{S:List (List Rat)}{D:Rat}{x:List Rat}:∀e d j,(bwX n S D x (d+e)).getD (e+j) 0=(bwX n S D x d).getD j 0
 |0,d,j=>by rw [Nat.zero_add];rfl
 |e+1,d,j=>by
   rw [show e+1+j=(e+j)+1 by omega,<-Nat.add_assoc];show(_::bwX n S D x (d+e)).getD (e+j+1) 0=_;rw [List.getD_cons_succ];exact bwX_at e d j
theorem zkX (f:Nat->Rat)(m:Nat):∀d,zav (m+d) (λj=>if m<=j then f j else 0)=zav d λi=>f (m+i)
 |0=>by rw [zbq λj hj=>if_neg om9];rfl
 |d+1=>by rw [<-Nat.add_assoc,zaD,zaD,zkX f m d,if_pos om9]
section
variable {n K L:Nat}{a:Nat->Nat->Rat}{S C:List (List Rat)}{b:List Rat}
theorem zhk {x0:List Rat}(hC:zaY C n n)(hx:x0.length=n):∀c,c<=n->(zcd S C x0 c).length=n
 |0,_=>hx
 |c+1,hc=>zez (zhk hC hx c om9) (hC.row om9) om9
theorem zft {r:Rat}{xs:List Rat}:(zau r xs).length=xs.length:=by unfold zau;rw [List.length_map]
theorem zcz.fwd (h:zcz n K L a S C b):Fwd n (atM S) (λi=>zao b*b.getD i 0) (λc i=>(zcd S C (zau (zao b) b) c).getD i 0) where
 ne:=h.inv.ne
 zero:=λi _=>zct _
 step:=λc hc i hi=>by
  have hl:(zau (zao b) b).length=n:=by rw [zft];exact h.len
  show(zbG c _ _ _).getD i 0=_;rw [zjq (zhk h.dC hl c om9) (h.dC.row hc) hc hi];have e1:(C.getD c []).getD c 0=atM S c c:=h.turn c hc c hc;have e2:(C.getD c []).getD i 0=atM S i c:=h.turn i hi c hc;rw [e1,e2]
theorem zcz.xsz (h:zcz n K L a S C b)(hn:n<=64){c:Nat}(hc:c<=n):zat (67+65*K) (zcd S C (zau (zao b) b) c):=λx hx=>by
 have hl:=zhk (S:=S) h.dC (by rw [zft];exact h.len:(zau (zao b) b).length=n) c hc;obtain⟨i,hi,e⟩:=List.mem_iff_getElem.1 hx;have:=h.fwd.sz h.inv hn h.ali h.bli hc (i:=i) om9;rw [<-e,show(zcd S C (zau (zao b) b) c)[i]=(zcd S C (zau (zao b) b) c).getD i 0 by rw [List.getD_eq_getElem?_getD,List.getElem?_eq_getElem hi];rfl];exact this.szq om9
def zX (n:Nat)(S C:List (List Rat))(b:List Rat)(j:Nat):Rat:=(bwX n S (prF (atM S) n) (zcd S C (zau (zao b) b) n) n).getD j 0
theorem zX_at {d j:Nat}(hd:d<=n):(bwX n S (prF (atM S) n) (zcd S C (zau (zao b) b) n) d).getD j 0=zX n S C b (n - d+j):=by
 have:=bwX_at (n:=n) (S:=S) (D:=prF (atM S) n) (x:=zcd S C (zau (zao b) b) n) (n - d) d j;rw [show d+(n - d)=n by omega] at this;exact this.symm
theorem zcz.rel (h:zcz n K L a S C b){k:Nat}(hk:k<n):zav n (λj=>if k<=j then atM S k j*zX n S C b j else 0)=prF (atM S) n*(zcd S C (zau (zao b) b) k).getD k 0:=by
 have h0:=h.inv.ne k hk;have e1:=znv hk (λj=>atM S k j*zX n S C b j) (λ_=>true);simp only [and_true,if_true] at e1;rw [e1];have e2:=zkX (λj=>atM S k j*zX n S C b j) (k+1) (n - (k+1));rw [show k+1+(n - (k+1))=n by omega] at e2;rw [e2];have hz:zX n S C b k=(prF (atM S) n*(zcd S C (zau (zao b) b) n).getD k 0 - zdY ((S.getD k []).drop (k+1)) (bwX n S (prF (atM S) n) (zcd S C (zau (zao b) b) n) (n - (k+1)))) / atM S k k:=by
  have:=zX_at (n:=n) (S:=S) (C:=C) (b:=b) (d:=n - (k+1)+1) (j:=0) om9;rw [show n - (n - (k+1)+1)+0=k by omega] at this;rw [<-this];show(_::_).getD 0 0=_;rw [List.getD_cons_zero,show n - (n - (k+1)+1)=k by omega,show n - (n - (k+1))=k+1 by omega]
 have c:zdY ((S.getD k []).drop (k+1)) (bwX n S (prF (atM S) n) (zcd S C (zau (zao b) b) n) (n - (k+1)))=zav (n - (k+1)) λi=>atM S k (k+1+i)*zX n S C b (k+1+i):=by
  rw [zkr (k:=n - (k+1)) (by rw [List.length_drop,h.dS.row hk]) (zhg _ _ _ _ _)];refine zal λi _=>?_;rw [zlt,zX_at om9,show n - (n - (k+1))+i=k+1+i by omega];rfl
 have hx:(zcd S C (zau (zao b) b) n).getD k 0=(zcd S C (zau (zao b) b) k).getD k 0:=h.fwd.late' hk om9 (Nat.le_refl n);rw [hz,c,hx]
 grind
theorem zcz.solves (h:zcz n K L a S C b):∀i,i<n->zav n (λj=>a i j*zX n S C b j)=zaJ n a*(zao b*b.getD i 0):=by
 rw [<-h.det];exact h.fwd.solves h.inv λk hk=>h.rel hk
theorem zcz.dne (h:zcz n K L a S C b):prF (atM S) n≠0:=h.inv.pr (Nat.le_refl n)
theorem zcz.zsz (h:zcz n K L a S C b)(hn:n<=64){k:Nat}(hk:k<n):LI (65+64*K) (zX n S C b k):=(zqi hn h.ali h.bli (by rw [<-h.det];exact h.dne) h.solves hk).2
theorem zcz.bsz (h:zcz n K L a S C b)(hn:n<=64){d:Nat}(hd:d<=n):zat (65+64*K) (bwX n S (prF (atM S) n) (zcd S C (zau (zao b) b) n) d):=λx hx=>by
 have hl:=zhg n S (prF (atM S) n) (zcd S C (zau (zao b) b) n) d;obtain⟨i,hi,e⟩:=List.mem_iff_getElem.1 hx;rw [<-e,show(bwX n S (prF (atM S) n) (zcd S C (zau (zao b) b) n) d)[i]=(bwX n S (prF (atM S) n) (zcd S C (zau (zao b) b) n) d).getD i 0 by rw [List.getD_eq_getElem?_getD,List.getElem?_eq_getElem hi];rfl,zX_at hd];exact(h.zsz hn om9).szq om9
theorem zcz.dsz (h:zcz n K L a S C b)(hn:n<=64):LI (65+64*K) (prF (atM S) n):=by
 rw [h.det];refine(LI.det_ hn h.ali).up ?_;have:n*(K+1)<=64*(K+1):=Nat.mul_le_mul_right _ hn;omega
theorem zcz.tne (h:zcz n K L a S C b):zao b≠0:=zhG (by decide+kernel)
theorem zqG:(zdp n S C b).length=n:=by unfold zdp;rw [zft,zhg]
end
