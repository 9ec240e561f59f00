/- What this claim leans on. -/
import Derived.Test.YtghpdeciaaagnaaGreatDoorQLList
namespace Go.Proofs.YtghpdeciaaagnaaGreatDoor
open Go Go.RowKit Go.Proofs.Tryz
set_option maxHeartbeats 16000000
set_option maxRecDepth 100000
set_option linter.unusedVariables false
set_option linter.unusedSimpArgs false
theorem zjU (M:List (List Rat))(v:List Rat):(zdw M v).length=M.length:=by simp [zdw]
theorem zpe {M:List (List Rat)}{v:List Rat}{i:Nat}(h:i<M.length):(zdw M v)[i]?=some (zdY (M.getD i []) v):=by
 unfold zdw;rw [List.getElem?_map,List.getD_eq_getElem?_getD,List.getElem?_eq_getElem h];rfl
section
variable {K K':Nat}{w:World}
theorem mat_dots {n k q c:Nat}{Q A:oA9}{Ls:List (List Rat)}{xs:List Rat}(hT:zai w)(h:zaC (zaM zaf) w Q n Ls)(hd:∀L ∈ Ls,L.length=k)(hv:zaH w A k c xs)(z:zaO K Ls)(zx:zat K' xs)(hn:n<=64:=by omega)(hk:k<=64:=by omega)(hK:K<=67108864:=by omega)(G:K'<=67108864:=by omega)(hS:1+k*(K+K'+1)<=67108864:=by omega):
  Calls prog 97 #[.slice Q n q,.slice A k c] w (zdq w n (zdw Ls xs)):=by
 have hl:=h.len;have HR:=lh9 h;have HV:=lh9 hv;have HT:=up9 w (λw' hb=>hT.on hb);have HZ:Hid (∀i,i<n->zat K (Ls.getD i [])):=λi hi=>z.row om9;have HD:Hid (∀i,i<n->(Ls.getD i []).length=k):=λi hi=>hd _ (List.mem_of_getElem? (zbi om9));have HX:=lh9 zx;have l:Hid ((zdw Ls xs).length=n):=by show _=_;rw [zjU];exact hl
 have HG:Hid (∀i,i<n->(zdw Ls xs)[i]?=some (zdY (Ls.getD i []) xs)):=λi hi=>zpe om9;have F:=lh9 hS;obtain⟨ys,y⟩:∃ys,zdw Ls xs=ys:=⟨_,rfl⟩;rw [y] at l HG⊢;obtain⟨Z,hZ⟩:=zcQ n om9;have J:=λW=>(hZ W).1;have f:=lh9 (λW=>(hZ W).2);clear hT h hd hv z zx hl y hZ hS;unfold zdq;have i0:(0:Int)<=(n:Int):=om9;go_enter func97,ntmps97;go_wp2_with fail;clear J;have a:=f.out w;have hB:Below w.heap.size w (w.alloc (.cells Z 41)):=(Below.refl _ w).alloc (Nat.le_refl _) _;obtain⟨gp,s⟩:∃g,w.heap.size=g:=⟨_,rfl⟩;have v:w.heap.size<=gp:=om9;rw [s] at a⊢;rw [<-zbk 0 ys n] at a;generalize w.alloc (.cells Z 41)=W1 at*;clear s f
 go_loopg [13] (n+1) (λg ix wr=>∃(k:Nat),k<=n/\n<g+k/\ix=.int .i64 k/\zaI wr gp n (zbU 0 ys n k)/\Below w.heap.size w wr)
 case atStart=>exact⟨0,Nat.zero_le _,om9,rfl,a,hB⟩
 case round=>
  clear a hB;obtain⟨i,hkn,hg,rfl,a,hB⟩:=hrel;by_cases hlt:i<n
  ·obtain⟨ad,B,d,rfl,-,hc,t⟩:=HR.out.get (zaA zak) hB hlt (HD.out i hlt);have H:decide ((i:Int)<(n:Int))=true:=decide_eq_true om9;have i1:(0:Int)<=(i:Int):=om9;have i2:(i:Int)<(n:Int):=om9;have j:=lh9 a;have r:=lh9 t;have b:=lh9 hB;clear t a hB;go_wp2_with fail;(with_reducible refine(zfv (HT.out _ b.out) r.out (HV.out.keep b.out) (HZ.out i hlt) HX.out om9 hK G F.out).mono ?_);rintro e w3 ⟨b3,A3,n3,c3,E3,k3,f3,rfl,u,hb⟩;clear hc;have m:=j.out.keep hb;have o:=zbm.set_ zak m hlt u;rw [zbv 0 ys n i l.out hlt _ (HG.out i hlt)] at o;obtain⟨q0,q1,q2,sc0,sf0,sc1,sf1,sc2,sf2⟩:=m.ready hlt (.bool b3) (.slice A3 n3 c3);have D:=lh9 o;have C:=lh9 (zcA (i*3) (i*3+1) (i*3+2) (.bool b3) (.slice A3 n3 c3) (.slice E3 k3 f3) v (zaa b.out hb));clear m o hb u j b r;go_wp2;go_roundg (n - i)
   case measure=>omega
   case rel=>exact⟨i+1,om9,om9,by go_num,D.out,C.out⟩
  ·have I:i=n:=om9;subst I;have H:decide ((i:Int)<(i:Int))=false:=si9;have E:=lh9 (zbu 0 ys i l.out▸a);have b:=lh9 hB;clear a hB;go_wp2;go_ret;exact⟨gp,rfl,v,E.out,b.out⟩
variable {A:oA9}{n c m:Nat}{MM:List (List Rat)}
theorem zoA {j:Nat}(h:zbL w A n c m MM)(hj:j<m):
  Calls prog 154 #[.agg #[.slice A n c,.int .i64 (m:Int)],.int .i64 (j:Int)] w (zdq w n (zhh n MM j)):=by
 obtain⟨hn,hm⟩:=And.intro h.hn h.hm;have HR:=λW=>lh9 (zcR A n c (m:Int) W);have HM:=lh9 h;have f:Hid ((zhh n MM j).length=n):=zhi n MM j;have HG:Hid (∀i,i<n->(zhh n MM j)[i]?=some (atM MM i j)):=λi hi=>by
  unfold zhh;rw [List.getElem?_map,List.getElem?_range hi];rfl
 obtain⟨ys,D⟩:∃ys,zhh n MM j=ys:=⟨_,rfl⟩;rw [D] at f HG⊢;obtain⟨Z,hZ⟩:=zcQ n om9;have K:=λW=>(hZ W).1;have b:=lh9 (λW=>(hZ W).2);obtain⟨u,l,bz⟩:=zax w 28 #[.slice A n c,.int .i64 (m:Int)];obtain⟨g0,g1⟩:=l.c2;have HB:=lh9 u;have HK:=lh9 l;clear h D hZ u l bz;unfold zdq;have i0:(0:Int)<=(n:Int):=om9;go_enter func154,ntmps154;go_wp2_with fail;refine(HR _).out.mono ?_;rintro e w2 ⟨rfl,hb⟩;have t:=lh9 (zaa HB.out hb);have r:=zab hb HK.out;have o:Below w2.heap.size w2 (w2.alloc (.cells Z 41)):=(Below.refl _ w2).alloc (Nat.le_refl _) _;have y:=zab o r;obtain⟨g0,g1⟩:=y.c2;have hsz:=r.lt;clear hb r y HK HB HR;go_wp2_with fail;clear K g0 g1;have a:=b.out w2;have hB:=zaa t.out o;obtain⟨gp,v⟩:∃g,w2.heap.size=g:=⟨_,rfl⟩;have C:w.heap.size<=gp:=om9;rw [v] at a⊢;rw [<-zbk 0 ys n] at a;generalize w2.alloc (.cells Z 41)=W1 at*;clear v b t o hsz
 go_loopg [14] (n+1) (λg ix wr=>∃(k:Nat),k<=n/\n<g+k/\ix=.int .i64 k/\zaI wr gp n (zbU 0 ys n k)/\Below w.heap.size w wr)
 case atStart=>exact⟨0,Nat.zero_le _,om9,rfl,a,hB⟩
 case round=>
  clear a hB;obtain⟨i,hkn,hg,rfl,a,hB⟩:=hrel;by_cases hlt:i<n
  ·obtain⟨ad,B,d,rfl,-,hc,ae,b3,A3,n3,c3,E3,k3,f3,rfl,-,h0,h1,h2,z⟩:=HM.out.place hB hlt hj;have I:decide ((i:Int)<(n:Int))=true:=decide_eq_true om9;have i1:(0:Int)<=(i:Int):=om9;have i2:(i:Int)<(n:Int):=om9;have i3:(0:Int)<=(j:Int):=om9;have i4:(j:Int)<(m:Int):=om9;have s:=zbm.set_ zak a hlt z;rw [zbv 0 ys n i f.out hlt _ (HG.out i hlt)] at s;obtain⟨q0,q1,q2,sc0,sf0,sc1,sf1,sc2,sf2⟩:=a.ready hlt (.bool b3) (.slice A3 n3 c3);have G:=lh9 s;have F:=lh9 (zcA (i*3) (i*3+1) (i*3+2) (.bool b3) (.slice A3 n3 c3) (.slice E3 k3 f3) C hB);clear s z a hB;go_wp2;go_roundg (n - i)
   case measure=>omega
   case rel=>exact⟨i+1,om9,om9,by go_num,G.out,F.out⟩
  ·have J:i=n:=om9;subst J;have I:decide ((i:Int)<(i:Int))=false:=si9;have H:=lh9 (zbu 0 ys i f.out▸a);have E:=lh9 hB;clear a hB;go_wp2;go_ret;exact⟨gp,rfl,C,H.out,E.out⟩
def zdZ (w:World)(n:Nat)(Ls:List (List Rat))(e:Ending)(w':World):Prop:=∃g,e=.returned (.slice (some ⟨g,0,none⟩) n n)/\w.heap.size<=g/\zaT (zaM zaf) w' 61 g n Ls/\Below w.heap.size w w'
theorem zmZ (h:zbL w A n c m MM):
  Calls prog 96 #[.agg #[.slice A n c,.int .i64 (m:Int)]] w (zdZ w m (zeC n m MM)):=by
 obtain⟨hn,hm⟩:=And.intro h.hn h.hm;have HM:=lh9 h;have l:Hid ((zeC n m MM).length=m):=zgf _ _ _;have F:Hid (∀j,(zhh n MM j).length=n):=λj=>zhi n MM j;have HG:Hid (∀j,j<m->(zeC n m MM)[j]?=some (zhh n MM j)):=λj hj=>zhE _ hj;obtain⟨ys,C⟩:∃ys,zeC n m MM=ys:=⟨_,rfl⟩;rw [C] at l HG⊢;obtain⟨Y,hY⟩:=zhT m om9;have K:=λW=>(hY W).1;have d:=lh9 (λW=>(hY W).2);obtain⟨y,o,bz⟩:=zax w 28 #[.slice A n c,.int .i64 (m:Int)];obtain⟨g0,g1⟩:=o.c2;have r:=(zax (w.alloc (.cells #[.slice A n c,.int .i64 (m:Int)] 28)) 61 Y).1;have hK:=zab r o;have hB:=zaa y r;clear h C hY y o r;unfold zdZ;have i0:(0:Int)<=(m:Int):=om9;go_enter func96,ntmps96;go_wp2_with fail;clear K g0 g1;have a:=d.out (w.alloc (.cells #[.slice A n c,.int .i64 (m:Int)] 28));have e1:(w.alloc (.cells #[.slice A n c,.int .i64 (m:Int)] 28)).heap.size=w.heap.size+1:=si9;rw [e1] at a;rw [<-zbk [] ys m] at a;generalize (w.alloc (.cells #[.slice A n c,.int .i64 (m:Int)] 28)).alloc (.cells Y 61)=W1 at*;obtain⟨gb,z⟩:∃g,w.heap.size=g:=⟨_,rfl⟩;have hwg:w.heap.size<=gb:=om9;rw [z] at a hK⊢;clear e1 d z bz
 go_loopg [10] (m+1) (λg ix wr=>∃(k:Nat),k<=m/\m<g+k/\ix=.int .i64 k/\zaT (zaM zaf) wr 61 (gb+1) m (zbU [] ys m k)/\Below w.heap.size w wr/\Blk wr gb 28 #[.slice A n c,.int .i64 (m:Int)])
 case atStart=>exact⟨0,Nat.zero_le _,om9,rfl,a,hB,hK⟩
 case round=>
  clear a hB hK;obtain⟨i,hkn,hg,rfl,a,hB,hK⟩:=hrel;by_cases hlt:i<m
  ·have I:decide ((i:Int)<(m:Int))=true:=decide_eq_true om9;have i1:(0:Int)<=(i:Int):=om9;have i2:(i:Int)<(m:Int):=om9;obtain⟨g0,g1⟩:=hK.c2;have f:=lh9 a;have b:=lh9 hB;have v:=lh9 hK;have u:=lh9 (HG.out i hlt);clear a hB hK;go_wp2_with fail;(with_reducible refine(zoA (HM.out.keep b.out) hlt).mono ?_);rintro e w5 ⟨g5,rfl,hg5,B,hb⟩;clear g0 g1;have s:=f.out.below (zaA zak) hb;have t:=zaT.set_ (zaA zak) s hlt (zaR B) (F.out i);rw [zbv [] ys m i l.out hlt _ u.out] at t;obtain⟨q0,sc0,sf0⟩:=s.ready hlt;have H:=lh9 t;have D:=lh9 (zae (p:=⟨gb+1,i,none⟩) (.slice (some ⟨g5,0,none⟩) n n) (show w.heap.size<=gb+1 by omega) (zaa b.out hb));have E:=lh9 (Blk.far (p:=⟨gb+1,i,none⟩) (zab hb v.out) (by show gb≠gb+1;omega) (.slice (some ⟨g5,0,none⟩) n n));clear s t B hb f b v u;go_wp2;go_roundg (m - i)
   case measure=>omega
   case rel=>exact⟨i+1,om9,om9,by go_num,H.out,D.out,E.out⟩
  ·have J:i=m:=om9;subst J;have I:decide ((i:Int)<(i:Int))=false:=si9;have G:=lh9 (zbu [] ys i l.out▸a);have b:=lh9 hB;clear a hB hK;go_wp2;go_ret;exact⟨gb+1,rfl,om9,G.out,b.out⟩
variable {V:oA9}{k cv:Nat}{xs:List Rat}
end
theorem zaT.hangs {α:Type}{R:RP α}{wo W2 wr:World}{t:TypeId}{g n i m:Nat}{Ls:List (List α)}(h:zaT R wo t g n Ls)(h2:Below wo.heap.size wo W2)(hi:i<n)(hb:Below wo.heap.size (W2.setCell ⟨g,i,none⟩ (.slice (some ⟨wo.heap.size,0,none⟩) m m)) wr):wr.cell? ⟨g,i,none⟩=some (.slice (some ⟨wo.heap.size,0,none⟩) m m):=by
 obtain⟨cs,hk,h1,h3⟩:=h.blk;have a:=((zab h2 hk).set_ i (.slice (some ⟨wo.heap.size,0,none⟩) m m)).below hb hk.lt;rw [a.cell,Array.getElem?_setIfInBounds_self_of_lt om9]
theorem zaT.put {α:Type}{R:RP α}(hR:zcf R){wo W2 wr:World}{t:TypeId}{g n i m:Nat}{Ls:List (List α)}{L:List α}(h:zaT R wo t g n Ls)(h2:Below wo.heap.size wo W2)(hi:i<n)(hb:Below wo.heap.size (W2.setCell ⟨g,i,none⟩ (.slice (some ⟨wo.heap.size,0,none⟩) m m)) wr)(hx:R wr (some ⟨wo.heap.size,0,none⟩) m m L)(hm:L.length=m):zaT R wr t g n (Ls.set i L):=by
 subst hm;obtain⟨cs,hk,h1,h3⟩:=h.blk;have b:=hk.lt;have a:=((zab h2 hk).set_ i (.slice (some ⟨wo.heap.size,0,none⟩) L.length L.length)).below hb b;have hs:=h2.size;have ho:zaV g wo wr:=⟨by have:=hb.size;simp at this;omega,λp hp hq=>((hb.cell hp).trans ((zaV.of_far ((zbp.refl g W2).set_ i _)).2 p om9 hq)).trans (h2.cell hp)⟩;have hc:wr.cell? ⟨g,i,none⟩=some (.slice (some ⟨wo.heap.size,0,none⟩) L.length L.length):=by rw [a.cell,Array.getElem?_setIfInBounds_self_of_lt om9]
 refine⟨by rw [List.length_set];exact h.len,⟨_,a,?_,by simp;exact h3⟩,λj y hj=>?_⟩
 ·intro u hu;rw [Array.toList_setIfInBounds] at hu;rcases List.mem_or_eq_of_mem_set hu with hu|rfl
  ·exact h1 u hu
  ·exact⟨_,_,_,rfl⟩
 ·by_cases hij:i=j
  ·subst hij;have hl:=h.len;rw [List.getElem?_set_self om9] at hj;injection hj with hj;subst hj;exact⟨_,_,hc,hx⟩
  ·rw [List.getElem?_set_ne hij] at hj;obtain⟨B',d',c1,c2⟩:=h.num j y hj;refine⟨B',d',?_,hR.offS c2 hk h1 ho⟩;rw [a.cell,Array.getElem?_setIfInBounds_ne om9,<-hk.cell];exact c1
theorem zkA (f:Nat->Nat->Rat)(F:FuncId)(cap:Array Value)(n:Nat)(w:World)(hG:zdX f F cap n n w)(hn:n<=64:=by omega):
  Calls prog 172 #[.int .i64 (n:Int),.func (.func F) #[] cap] w (zdZ w n (zbz n n f)):=by
 obtain⟨hEn,hF⟩:=hG;have HF:=lh9 hF;have A:=lh9 (zgf n n f);have z:Hid (∀r,r<n->(zbz n n f)[r]?=some ((List.range n).map (f r))):=λr hr=>zhE f hr;have S:Hid (∀r c,c<n->((List.range n).map (f r))[c]?=some (f r c)):=λr c hc=>zjG (f r) hc;have T:Hid (∀r,((List.range n).map (f r)).length=n):=λr=>zjH n (f r);obtain⟨s,v⟩:∃s:Nat->List Rat,(λr=>(List.range n).map (f r))=s:=⟨_,rfl⟩;have o:∀r,(List.range n).map (f r)=s r:=λr=>by rw [<-v]
 simp only [o] at z S T;obtain⟨M,hM⟩:∃M,zbz n n f=M:=⟨_,rfl⟩;rw [hM] at A z⊢;obtain⟨Z,hZ⟩:=zcQ n om9;have HMK:∀W,(Instr.makeSlice 61 (.int .i64 (n:Int)) (.int .i64 (n:Int))).run prog W=.ok (.slice (some ⟨W.heap.size,0,none⟩) n n) (W.alloc (.cells Z 41)):=λW=>(hZ W).1;have U:=lh9 (λW=>(hZ W).2);obtain⟨Y,hY⟩:=zhT n om9;have HMKV:∀W,(Instr.makeSlice 26 (.int .i64 (n:Int)) (.int .i64 (n:Int))).run prog W=.ok (.slice (some ⟨W.heap.size,0,none⟩) n n) (W.alloc (.cells Y 61)):=λW=>(hY W).1;have a:=(hY w).2;have b:Below w.heap.size w (w.alloc (.cells Y 61)):=(Below.refl _ w).alloc (Nat.le_refl _) _;rw [<-zbk [] M n] at a;clear hF v o hM hZ hY;unfold zdZ;have i0:(0:Int)<=(n:Int):=om9;go_enter func172,ntmps172;go_wp2_with fail;obtain⟨g0,ab⟩:∃g,w.heap.size=g:=⟨_,rfl⟩;have ae:w.heap.size<=g0:=om9;rw [ab] at a⊢;generalize w.alloc (.cells Y 61)=W1 at*;clear ab
 go_loopg [12] (n+1) (λg ix wr=>∃(k:Nat),k<=n/\n<g+k/\ix=.int .i64 k/\zaT (zaM zaf) wr 61 g0 n (zbU [] M n k)/\Below w.heap.size w wr)
 case atStart=>exact⟨0,Nat.zero_le _,om9,rfl,a,b⟩
 case round=>
  clear a b;obtain⟨k,hkn,hg,rfl,a,hB⟩:=hrel;obtain⟨wo,ao⟩:∃wo,wo=wr:=⟨_,rfl⟩;subst ao;by_cases hlt:k<n
  ·have am:decide ((k:Int)<(n:Int))=true:=decide_eq_true om9;have i2:(0:Int)<=(k:Int):=om9;have i3:(k:Int)<(n:Int):=om9;have u:=lh9 (S.out k);have h:=lh9 (T.out k);have t:=lh9 (z.out k hlt);obtain⟨R,hR⟩:∃R,s k=R:=⟨_,rfl⟩;rw [hR] at u h t;have d:=U.out wo;have b:Below wo.heap.size wo (wo.alloc (.cells Z 41)):=(Below.refl _ wo).alloc (Nat.le_refl _) _;have I:=a.below (zaA zak) b;obtain⟨q0,N,O⟩:=I.ready hlt;obtain⟨cs,ac,aa,-⟩:=I.blk;have H:wo.heap.size≠g0:=by have:=a.lt;omega
   have d:zaI _ wo.heap.size n _:=zaI.turn d (zaK.set_ g0 k _ (.slice (some ⟨wo.heap.size,0,none⟩) n n)) ac (zeJ aa) H;rw [<-zbk 0 R n] at d;have i:=lh9 a;have P:=lh9 b;have aj:=lh9 H;have HB:=lh9 (zae (p:=⟨g0,k,none⟩) (.slice (some ⟨wo.heap.size,0,none⟩) n n) ae (zaa hB b));have X:=lh9 hB.size;clear a hB b I ac aa H hR;go_wp2_with fail;clear N O;obtain⟨W3,E⟩:∃W3,(wo.alloc (.cells Z 41)).setCell ⟨g0,k,none⟩ (.slice (some ⟨wo.heap.size,0,none⟩) n n)=W3:=⟨_,rfl⟩;have C:=lh9 E;rw [E] at d HB⊢;have ai:=lh9 (λwr (hb:Below wo.heap.size W3 wr)=>i.out.hangs P.out hlt (by rw [C.out];exact hb));have V:=lh9 (λwr (hb:Below wo.heap.size W3 wr) (hx:zaH wr (some ⟨wo.heap.size,0,none⟩) n n R)=>zaT.put (zaA zak) i.out P.out hlt (by rw [C.out];exact hb) hx h.out);clear E C
   go_loopg [21] (n+1) (λg jx wr=>∃(j:Nat),j<=n/\n<g+j/\jx=.int .i64 j/\zaI wr wo.heap.size n (zbU 0 R n j)/\Below wo.heap.size W3 wr)
   case atStart=>exact⟨0,Nat.zero_le _,om9,rfl,d,Below.refl _ _⟩
   case round=>
    clear d;obtain⟨j,hjm,hg2,rfl,d,b⟩:=hrel;have l:=lh9 d;by_cases hjl:j<n
    ·have an:decide ((j:Int)<(n:Int))=true:=decide_eq_true om9;have i4:(0:Int)<=(j:Int):=om9;have i5:(j:Int)<(n:Int):=om9;have ah:=lh9 (u.out j hjl);have p0:=ai.out _ b;have B:Hid (wo.heap.size<wr.heap.size):=d.lt;have Q:=lh9 b.drew;clear d b;go_wp2_with fail;have G:=(Below.refl wr.heap.size wr).drew;refine rg (csc p0 csn) (λhHeld=>?_);clear p0;have l:=lh9 (l.out.keep G);have B:=lh9 (Nat.lt_of_lt_of_le B.out G.size);clear G;generalize wr.drew=D at*;refine tk 0 ?_;refine tk 1 ?_;refine tk 2 ?_;refine tk 3 ?_;refine tk 4 ?_;refine tk 5 ?_;refine tk 6 ?_;refine tk 7 ?_;refine rc 8 (λKK m=>?_);go_simp;refine(HF.out k j hlt hjl _ (HB.out.trans (Q.out.mono X.out))).mono ?_;rintro e w3 ⟨b3,A3,n3,c3,E3,k3,f3,rfl,ad,hb⟩;refine m.out _ _ (Cs.below hHeld hb) (λhHeld=>?_);have J:=l.out.keep hb;have K:=zbm.set_ zak J hjl ad;rw [zbv 0 R n j h.out hjl _ ah.out] at K;obtain⟨q0,q1,q2,N,O,ap,ar,aq,au⟩:=J.ready hjl (.bool b3) (.slice A3 n3 c3);have ak:=lh9 K;have af:=lh9 ((((Q.out.trans (hb.mono (Nat.le_of_lt B.out))).setCell (p:=⟨wo.heap.size,j*3,none⟩) (Nat.le_refl _) (.bool b3)).setCell (p:=⟨wo.heap.size,j*3+1,none⟩) (Nat.le_refl _) (.slice A3 n3 c3)).setCell (p:=⟨wo.heap.size,j*3+2,none⟩) (Nat.le_refl _) (.slice E3 k3 f3));have y:=(((zbp.refl wo.heap.size w3).set_ (j*3) (.bool b3)).set_ (j*3+1) (.slice A3 n3 c3)).set_ (j*3+2) (.slice E3 k3 f3);clear J K hb ad l m KK;refine tk 9 ?_;refine rc 10 (λKK m=>?_);go_simp;refine m.out _ _ (Cs.far hHeld y ⟨Ne.symm aj.out,trivial⟩) (λhHeld=>?_);clear m KK N O ap ar aq au y;refine rdn ?_;clear hHeld;go_wp2;go_roundg (n - j)
     case measure=>omega
     case rel=>exact⟨j+1,om9,om9,by go_num,ak.out,af.out⟩
    ·have hj:j=n:=om9;subst hj;have an:decide ((j:Int)<(j:Int))=false:=si9;have L:=V.out _ b (zaR (zbu 0 R j h.out▸l.out));rw [zbv [] M j k A.out hlt _ t.out] at L;have al:=lh9 L;have ag:=lh9 (HB.out.trans (b.mono X.out));clear d b L l;go_wp2;go_roundg (j - k)
     case measure=>omega
     case rel=>exact⟨k+1,om9,om9,by go_num,al.out,ag.out⟩
  ·have hk:k=n:=om9;subst hk;have am:decide ((k:Int)<(k:Int))=false:=si9;have i:=lh9 (zbu [] M k A.out▸a);have HB:=lh9 hB;clear a hB;go_wp2;go_ret;exact⟨g0,rfl,ae,i.out,HB.out⟩
section
variable {α:Type}{E:El α}
theorem zcc.open {w:World}{d n c:Nat}{t:TypeId}{ad:Addr}{xs:List α}{vs:List Value}(h:zcc E w d t (.slice (some ad) n c) xs vs):
  ∃a:Array Value,ad=⟨ad.block,0,none⟩/\d<=ad.block/\n=xs.length/\Blk w ad.block t a/\xs.length<=c/\c<=maxLen/\a.size=c*3/\a.toList.take (xs.length*3)=vs/\NoU a:=by
 rcases h.own.2 with⟨e,h0⟩|⟨g,cap,a,e,hbg,hg,hnc,hcm,hcs,htake⟩
 ·cases e
 ·injection e with e1 e2 e3;injection e1 with e1;subst e1 e2 e3;obtain⟨f,e2,b,j⟩:=h.nou g rfl;have i:f=a:=by
   rw [hg] at b;injection b with b;injection b with b;exact b.symm
  subst i;exact⟨f,rfl,hbg,rfl,hg,hnc,hcm,hcs,htake,λu hu k z=>j u hu k z⟩
theorem zcc.ready {w:World}{g n c:Nat}{t:TypeId}{ad:Addr}{xs:List α}{vs:List Value}(h:zcc E w g t (.slice (some ad) n c) xs vs){i:Nat}(hi:i<n)(x y:Value):∃a b d:Value,w.cell? ⟨ad.block,i*3,none⟩=some a/\w.frozen? ⟨ad.block,i*3,none⟩=false/\(w.setCell ⟨ad.block,i*3,none⟩ x).cell? ⟨ad.block,i*3+1,none⟩=some b/\(w.setCell ⟨ad.block,i*3,none⟩ x).frozen? ⟨ad.block,i*3+1,none⟩=false/\
  ((w.setCell ⟨ad.block,i*3,none⟩ x).setCell ⟨ad.block,i*3+1,none⟩ y).cell? ⟨ad.block,i*3+2,none⟩=some d/\((w.setCell ⟨ad.block,i*3,none⟩ x).setCell ⟨ad.block,i*3+1,none⟩ y).frozen? ⟨ad.block,i*3+2,none⟩=false:=by
 obtain⟨cs,-,-,h0,hk,h1,-,h2,-⟩:=h.open;have f:=hk.set_ (i*3) x;have j:=f.set_ (i*3+1) y;have e0:i*3<cs.size:=om9;have e1:i*3+1<(cs.setIfInBounds (i*3) x).size:=by simp;omega
 have e2:i*3+2<((cs.setIfInBounds (i*3) x).setIfInBounds (i*3+1) y).size:=by simp;omega
 exact⟨_,_,_,(hk.cell _).trans (Array.getElem?_eq_getElem e0),hk.frozen _,(f.cell _).trans (Array.getElem?_eq_getElem e1),f.frozen _,(j.cell _).trans (Array.getElem?_eq_getElem e2),j.frozen _⟩
theorem zcc.put (hE:zco E){w:World}{l n c:Nat}{t:TypeId}{ad:Addr}{xs:List α}{vs:List Value}(h:zcc E w l t (.slice (some ad) n c) xs vs){i:Nat}(hi:i<n){x:α}{b:Bool}{B:oA9}{m d:Nat}{F:oA9}{u v:Nat}(hx:E w x b B m d F u v):
  ∃K,zcc E (((w.setCell ⟨ad.block,i*3,none⟩ (.bool b)).setCell ⟨ad.block,i*3+1,none⟩ (.slice B m d)).setCell ⟨ad.block,i*3+2,none⟩ (.slice F u v)) l t (.slice (some ad) n c) (xs.set i x) K:=by
 obtain⟨cs,e9,s,h0,hk,h1,H,h2,h3,r⟩:=h.open;obtain⟨g,o,p⟩:=ad;simp only [Addr.mk.injEq,true_and] at e9;obtain⟨rfl,rfl⟩:=e9;simp only at hk s⊢;have ho:=zaV.of_far (zfC g (i*3) (i*3+1) (i*3+2) w (.bool b) (.slice B m d) (.slice F u v));have A:=((hk.set_ (i*3) (.bool b)).set_ (i*3+1) (.slice B m d)).set_ (i*3+2) (.slice F u v);have I:NoU (((cs.setIfInBounds (i*3) (.bool b)).setIfInBounds (i*3+1) (.slice B m d)).setIfInBounds (i*3+2) (.slice F u v)):=zgr (zgr (zgr r _ (λ_ _ e=>by cases e)) _ (λ_ _ e=>by cases e)) _ (λ_ _ e=>by cases e);generalize ((w.setCell ⟨g,i*3,none⟩ (.bool b)).setCell ⟨g,i*3+1,none⟩ (.slice B m d)).setCell ⟨g,i*3+2,none⟩ (.slice F u v)=w3 at*;obtain⟨cs3,a⟩:∃q,((cs.setIfInBounds (i*3) (.bool b)).setIfInBounds (i*3+1) (.slice B m d)).setIfInBounds (i*3+2) (.slice F u v)=q:=⟨_,rfl⟩;have C:cs3.size=cs.size:=by rw [<-a];simp
 have f:∀k,k<xs.length*3->(cs3.toList.take (xs.length*3))[k]?=cs3[k]?:=λk G=>by
  rw [List.getElem?_take_of_lt G,Array.getElem?_toList]
 refine⟨cs3.toList.take (xs.length*3),⟨⟨?_,.inr ⟨g,c,cs3,by rw [List.length_set,h0],s,by rw [<-a];exact A,by rw [List.length_set];exact h1,H,by rw [C];exact h2,by rw [List.length_set]⟩⟩,?_,?_⟩⟩
 ·have J:cs3.toList.length=c*3:=by rw [Array.length_toList,C,h2]
  rw [List.length_take,J,List.length_set];omega
 ·intro g' e;simp [Value.ownBlock] at e;subst e;exact⟨cs3,t,by rw [<-a];exact A,λq hq k z=>by rw [<-a] at hq;exact I q hq k z⟩
 ·intro j y hj;have D:=(List.getElem?_eq_some_iff.1 hj).1;rw [List.length_set] at D;by_cases hij:i=j
  ·subst hij;rw [List.getElem?_set_self om9] at hj;injection hj with hj;subst hj;refine⟨b,B,m,d,F,u,v,?_,?_,?_,hE.offg hx hk r ho⟩
   ·rw [f _ om9,<-a,Array.getElem?_setIfInBounds_ne om9,Array.getElem?_setIfInBounds_ne om9,Array.getElem?_setIfInBounds_self_of_lt om9]
   ·rw [f _ om9,<-a,Array.getElem?_setIfInBounds_ne om9,Array.getElem?_setIfInBounds_self_of_lt (by simp;omega)]
   ·rw [f _ om9,<-a,Array.getElem?_setIfInBounds_self_of_lt (by simp;omega)]
  ·rw [List.getElem?_set_ne hij] at hj;obtain⟨b1,B1,m1,d1,F1,u1,f1,c1,c2,c3,c4⟩:=h.num j y hj;rw [<-h3,List.getElem?_take_of_lt om9,Array.getElem?_toList] at c1 c2 c3;refine⟨b1,B1,m1,d1,F1,u1,f1,?_,?_,?_,hE.offg c4 hk r ho⟩
   ·rw [f _ om9,<-a,Array.getElem?_setIfInBounds_ne om9,Array.getElem?_setIfInBounds_ne om9,Array.getElem?_setIfInBounds_ne om9];exact c1
   ·rw [f _ om9,<-a,Array.getElem?_setIfInBounds_ne om9,Array.getElem?_setIfInBounds_ne om9,Array.getElem?_setIfInBounds_ne om9];exact c2
   ·rw [f _ om9,<-a,Array.getElem?_setIfInBounds_ne om9,Array.getElem?_setIfInBounds_ne om9,Array.getElem?_setIfInBounds_ne om9];exact c3
end
theorem zkh {w w':World}{a c n:Nat}{e:TypeId}{v:Value}{xs:List Value}(h:w.ownsRow a e c v n xs)(hg:∀b,v.ownBlock=some b->w'.heap[b]?=w.heap[b]?):w'.ownsRow a e c v n xs:=by
 refine⟨h.1,?_⟩;rcases h.2 with h1|⟨g,cap,cur,e1,e2,e3,e4⟩
 ·exact .inl h1
 ·exact .inr ⟨g,cap,cur,e1,e2,(hg g (by rw [e1];rfl)).trans e3,e4⟩
theorem zhc.put {E:El Rat}(hE:zco E){w:World}{lo n c i j:Nat}{v:Value}{M:List (List Rat)}{vs:List Value}{L:List Rat}{ad:Addr}(h:zhc E w lo v M vs)(hM:M[i]?=some L)(hu:vs[i]?=some (.slice (some ad) n c))(hj:j<n){x:Rat}{b:Bool}{B:oA9}{m d:Nat}{F:oA9}{u f:Nat}(hx:E w x b B m d F u f):
  zhc E (((w.setCell ⟨ad.block,j*3,none⟩ (.bool b)).setCell ⟨ad.block,j*3+1,none⟩ (.slice B m d)).setCell ⟨ad.block,j*3+2,none⟩ (.slice F u f)) lo v (M.set i (L.set j x)) vs:=by
 obtain⟨z,zs,h1,h2⟩:=h.num i L hM;rw [hu] at h1;injection h1 with h1;subst h1;obtain⟨o,hp⟩:=h2.put hE hj hx;obtain⟨cs,-,-,-,hk,-,-,-,-,l⟩:=h2.open;have ho:=zaV.of_far (zfC ad.block (j*3) (j*3+1) (j*3+2) w (.bool b) (.slice B m d) (.slice F u f));have hh:∀k,k≠ad.block->(((w.setCell ⟨ad.block,j*3,none⟩ (.bool b)).setCell ⟨ad.block,j*3+1,none⟩ (.slice B m d)).setCell ⟨ad.block,j*3+2,none⟩ (.slice F u f)).heap[k]?=w.heap[k]?:=λk a=>
  (Below.heap_setCell _ ⟨ad.block,j*3+2,none⟩ _ k a).trans ((Below.heap_setCell _ ⟨ad.block,j*3+1,none⟩ _ k a).trans (Below.heap_setCell w ⟨ad.block,j*3,none⟩ _ k a))
 generalize ((w.setCell ⟨ad.block,j*3,none⟩ (.bool b)).setCell ⟨ad.block,j*3+1,none⟩ (.slice B m d)).setCell ⟨ad.block,j*3+2,none⟩ (.slice F u f)=w3 at*;have g:∀q,v.ownBlock=some q->q≠ad.block:=λq e e2=>h.far i _ ad.block hu rfl (e.trans (by rw [e2]));refine⟨by rw [List.length_set];exact zkh h.own (λq e=>hh q (g q e)),h.sl.block (λq e=>hh q (g q e)),λk K a=>?_,h.apart,h.far⟩;by_cases hik:i=k
 ·subst hik;have hl:=(List.getElem?_eq_some_iff.1 hM).1;rw [List.getElem?_set_self om9] at a;injection a with a;subst a;exact⟨_,o,hu,hp⟩
 ·rw [List.getElem?_set_ne hik] at a;obtain⟨z1,r,h3,h4⟩:=h.num k K a;exact⟨z1,r,h3,h4.moved (λq e=>hh q (λe2=>hik (h.apart i k _ z1 ad.block hu h3 rfl (by rw [e,e2])))) (λh5=>hE.offg h5 hk l ho)⟩
def ZR (E:El Rat)(Z:Nat->Prop):RP Rat:=λw B m d L=>zaM E w B m d L/\∀ad,B=some ad->Z ad.block
theorem zr_rs {E:El Rat}(hE:zco E)(Z:Nat->Prop):zcf (ZR E Z):=⟨λh=>h.1.len,λh hb=>⟨h.1.below hE hb,h.2⟩,λh hk hs ho=>⟨zhz hE h.1 hk hs ho,h.2⟩,λw=>⟨zaM.nil w,λad e=>by cases e⟩⟩
theorem ZR.grown {E:El Rat}(hE:zco E){Z:Nat->Prop}{w w':World}{u:Value}{B:oA9}{m d:Nat}{L:List Rat}(h:ZR E Z w B m d L)(hg:w.grownBy w' u.ownBlock)(hn:zbD w u)(hz:∀b,u.ownBlock=some b->¬ Z b):ZR E Z w' B m d L:=by
 refine⟨?_,h.2⟩;cases hv:u.ownBlock with
 |none=>rw [hv] at hg;exact h.1.below hE (zaX hg)
 |some g=>
   rw [hv] at hg;obtain⟨t,cs,hk,hc⟩:=hn.blk hv;have ho:zaV g w w':=zaV.of_grown hg;refine⟨h.1.len,h.1.fits,h.1.most,λi x hi=>?_⟩;obtain⟨ad,b,B1,m1,d1,F,u1,v1,e,h1,h2,h3,h4,h5⟩:=h.1.num i x hi;have c:ad.block≠g:=λe9=>hz g hv (e9▸h.2 ad e);have a:∀j,w'.cell? (ad.add j)=w.cell? (ad.add j):=λj=>ho.2 _ (by rw [zah];exact h1) (by rw [zah];exact c);exact⟨ad,b,B1,m1,d1,F,u1,v1,e,Nat.lt_of_lt_of_le h1 ho.1,(a _).trans h2,(a _).trans h3,(a _).trans h4,hE.offg h5 hk hc ho⟩
structure ZM (E:El Rat)(Z:Nat->Prop)(w:World)(A:oA9)(n c:Nat)(M:List (List Rat)):Prop where
 fits:n<=c
 most:c<=9223372036854775807
 rows:zaC (ZR E Z) w A n M
 ty:∀ad,A=some ad->ziY w ad.block 70
theorem ZM.below {E:El Rat}(hE:zco E){Z:Nat->Prop}{w w':World}{A:oA9}{n c:Nat}{M:List (List Rat)}(h:ZM E Z w A n c M)(hb:Below w.heap.size w w'):ZM E Z w' A n c M:=⟨h.fits,h.most,h.rows.below (zr_rs hE Z) hb,λad e=>(h.ty ad e).below hb⟩
theorem ZM.grown {E:El Rat}(hE:zco E){E':El Rat}{Z:Nat->Prop}{w w':World}{A:oA9}{n c i m:Nat}{M:List (List Rat)}{u:Value}{L:List Rat}{us:List Value}(h:ZM E Z w A n c M)(hu:zcc E' w i 49 u L us)(hg:w.grownBy w' u.ownBlock)(hz:∀b,u.ownBlock=some b->¬ Z b):ZM E Z w' A n c M:=by
 cases hv:u.ownBlock with
 |none=>rw [hv] at hg;exact h.below hE (zaX hg)
 |some g=>
   obtain⟨B,d,rfl,-,-⟩:=hu.shape;cases B with
   |none=>simp [Value.ownBlock] at hv
   |some ad=>
     obtain⟨cur,-,-,-,hk,-⟩:=hu.open;have hb:ad.block=g:=by simp [Value.ownBlock] at hv;exact hv
     subst hb;have f:=hg;rw [hv] at f;refine⟨h.fits,h.most,h.rows.off (λa e=>(h.ty a e).ne hk de9) (zaV.of_grown f) (λh5=>ZR.grown hE h5 hg hu.nou hz),λa e=>?_⟩;obtain⟨cs,h9⟩:=h.ty a e;exact⟨cs,zbr h9 f (λe2=>by injection e2 with e2;exact(h.ty a e).ne hk de9 e2.symm)⟩
def stF (n:Nat)(s:Nat->Nat->Rat)(c:Nat):Nat->Nat->Rat:=λi j=>if c<=i/\c<=j then prF s c*zav n (λk=>if c<=k/\k<=i/\k<=j then tmF s i j k else 0) else s i j
theorem znv {n c:Nat}(hc:c<n)(f:Nat->Rat)(p:Nat->Bool):zav n (λk=>if c<=k/\p k=true then f k else 0)=(if p c=true then f c else 0)+zav n (λk=>if c+1<=k/\p k=true then f k else 0):=by
 rw [<-zep hc (λk=>if p k=true then f k else 0),<-zcj];refine zal λk _=>?_;by_cases e:k=c
 ·subst e;rw [if_pos rfl,if_neg (by omega:¬(k+1<=k/\_))];by_cases q:p k=true
  ·rw [if_pos ⟨Nat.le_refl _,q⟩,if_pos q];grind
  ·rw [if_neg λx=>q x.2,if_neg q];grind
 ·rw [if_neg e,Rat.zero_mul,Rat.zero_add];by_cases q:c<=k/\p k=true
  ·rw [if_pos q,if_pos ⟨om9,q.2⟩]
  ·rw [if_neg q,if_neg λx=>q ⟨om9,x.2⟩]
theorem zkU {n c i j:Nat}(s:Nat->Nat->Rat)(hc:c<n)(hi:c<=i)(hj:c<=j):zav n (λk=>if c<=k/\k<=i/\k<=j then tmF s i j k else 0)=tmF s i j c+zav n (λk=>if c+1<=k/\k<=i/\k<=j then tmF s i j k else 0):=by
 have h:=znv hc (tmF s i j) (λk=>decide (k<=i/\k<=j));simp only [decide_eq_true_eq] at h;rw [h,if_pos ⟨hi,hj⟩]
theorem stF_none {n c i j:Nat}(s:Nat->Nat->Rat)(h:i<=c\/j<=c):zav n (λk=>if c+1<=k/\k<=i/\k<=j then tmF s i j k else 0)=0:=zbq λk _=>if_neg om9
theorem zhB {n c i j:Nat}{s:Nat->Nat->Rat}(hc:c<n)(h0:s c c≠0)(hp:prF s c≠0)(hi:c<=i)(hj:c<=j)(h:i=c\/j=c):stF n s c i j=s i j:=by
 unfold stF;rw [if_pos ⟨hi,hj⟩,zkU s hc hi hj,stF_none s om9];unfold tmF;rcases h with rfl|rfl<;>grind
theorem stF_pr {n c:Nat}(s:Nat->Nat->Rat):prF (stF n s c) c=prF s c:=by
 unfold prF stF
 split
 ·rfl
 ·rw [if_neg om9]
theorem stF_step {n c i j:Nat}{s:Nat->Nat->Rat}(hc:c<n)(h0:s c c≠0)(hp:prF s c≠0)(hi:c<i)(hj:c<j):stF n s (c+1) i j=(prF (stF n s c) c)⁻¹*(stF n s c c c*stF n s c i j+ -stF n s c i c*stF n s c c j):=by
 rw [stF_pr,zhB hc h0 hp (Nat.le_refl c) (Nat.le_refl c) (Or.inl rfl),zhB hc h0 hp om9 (Nat.le_refl c) (Or.inr rfl),zhB hc h0 hp (Nat.le_refl c) om9 (Or.inl rfl)];unfold stF;rw [if_pos ⟨hi,hj⟩,if_pos ⟨om9,om9⟩,zkU (c:=c) s hc om9 om9,zfW];unfold tmF;generalize zav n (λk=>if c+1<=k/\k<=i/\k<=j then s i k*s k j*(s k k*prF s k)⁻¹ else 0)=u
 grind
theorem stF_sz {n m:Nat}{a s:Nat->Nat->Rat}(hm:n<=m)(ne:∀k,k<n->s k k≠0)(h:∀i,i<n->∀j,j<m->a i j=zav n (λk=>if 0<=k/\k<=i/\k<=j then tmF s i j k else 0)):∀c,c<=n->LSz n m c a (stF n s c)
 |0,_=>⟨a,by
    have:=zcy.start n m a;have e:prF (stF n s 0) 0=1:=rfl;rw [e];exact this,λi _ hi j _ hj=>by
    unfold stF;rw [if_pos ⟨Nat.zero_le _,Nat.zero_le _⟩,h i hi j hj];show _=(1:Rat)*_;rw [Rat.one_mul]⟩
 |c+1,hc=>by
   have hp:prF s c≠0:=by
    cases c with
    |zero=>show(1:Rat)≠0;decide+kernel
    |succ c=>exact ne c om9
   have h0:=ne c om9;have e0:=zhB (n:=n) om9 h0 hp (Nat.le_refl c) (Nat.le_refl c) (Or.inl rfl);refine(stF_sz hm ne h c om9).step om9 om9 (by rw [e0];exact h0) (λi h1 _ j h3 _=>stF_step om9 h0 hp h1 h3) ?_;rw [e0];unfold stF;rw [if_neg om9]
structure Fwd (n:Nat)(s:Nat->Nat->Rat)(b:Nat->Rat)(X:Nat->Nat->Rat):Prop where
 ne:∀k,k<n->s k k≠0
 zero:∀i,i<n->X 0 i=b i
 step:∀c,c<n->∀i,i<n->X (c+1) i=if c<i then(prF s c)⁻¹*(s c c*X c i+ -X c c*s i c) else X c i
section
variable {n:Nat}{a s:Nat->Nat->Rat}{b:Nat->Rat}{X:Nat->Nat->Rat}
theorem Fwd.pr (h:Fwd n s b X){k:Nat}(hk:k<=n):prF s k≠0:=by
 cases k with
 |zero=>show(1:Rat)≠0;decide+kernel
 |succ k=>exact h.ne k om9
theorem Fwd.late (h:Fwd n s b X){i:Nat}(hi:i<n):∀d,i+d<=n->X (i+d) i=X i i
 |0,_=>rfl
 |d+1,hd=>by
   rw [<-Nat.add_assoc,h.step _ om9 i hi,if_neg om9];exact h.late hi d om9
theorem Fwd.late' (h:Fwd n s b X){i c:Nat}(hi:i<n)(hc:i<=c)(a:c<=n):X c i=X i i:=by
 obtain⟨d,rfl⟩:=Nat.le.dest hc;exact h.late hi d a
theorem Fwd.eq (h:Fwd n s b X):∀c,c<=n->∀i,i<n->b i=zav c (λk=>if k<=i then s i k*X k k*(s k k*prF s k)⁻¹ else 0)+if c<=i then(prF s c)⁻¹*X c i else 0
 |0,_,i,hi=>by
   rw [zeX,if_pos (Nat.zero_le _),h.zero i hi];show b i=0+(1:Rat)⁻¹*b i
   grind
 |c+1,hc,i,hi=>by
   have h0:=h.ne c om9;have hp:=h.pr (k:=c) om9;rw [h.eq c om9 i hi,zaD,h.step c om9 i hi,zfW];by_cases e:c<=i
   ·rw [if_pos e,if_pos e];by_cases e2:c<i
    ·rw [if_pos (by omega:c+1<=i),if_pos e2];grind
    ·have:i=c:=om9;subst this;rw [if_neg om9];grind
   ·rw [if_neg e,if_neg e,if_neg om9];grind
def zfL (n:Nat)(s:Nat->Nat->Rat)(x:Nat->Rat):Nat->Nat->Rat:=λi j=>if j<n then s i j else x i
theorem zll {x:Nat->Rat}{k:Nat}(hk:k<=n):prF (zfL n s x) k=prF s k:=by
 unfold prF zfL
 split
 ·rfl
 ·rw [if_pos om9]
theorem zpn {x:Nat->Rat}{i k:Nat}(hk:k<n):tmF (zfL n s x) i n k=s i k*x k*(s k k*prF s k)⁻¹:=by
 unfold tmF;rw [zll om9];unfold zfL;rw [if_pos hk,if_neg (Nat.lt_irrefl n),if_pos hk]
theorem augF_tm2 {x:Nat->Rat}{i j k:Nat}(hk:k<n)(hj:j<n):tmF (zfL n s x) i j k=tmF s i j k:=by
 unfold tmF;rw [zll om9];unfold zfL;rw [if_pos hk,if_pos hj,if_pos hk]
theorem Fwd.sz (h:Fwd n s b X)(hs:zdR n n a s){K:Nat}(hn:n<=64)(ha:∀i,i<n->∀j,j<n->LI K (a i j))(hb:∀i,i<n->LI K (b i)){c i:Nat}(hc:c<=n)(hi:i<n):LI (67+65*K) (X c i):=by
 have d:∀c i,c<=i->i<n->LI (67+65*K) (X c i):=λc i hc hi=>by
  have hL:=stF_sz (n:=n) (m:=n+1) (a:=zfL n a b) (s:=zfL n s λk=>X k k) om9 (λk hk=>by unfold zfL;rw [if_pos hk];exact h.ne k hk) (λi hi j hj=>by
   by_cases e:j<n
   ·rw [show zfL n a b i j=a i j by unfold zfL;rw [if_pos e],hs.all hi e];refine zal λk hk=>?_;rw [augF_tm2 hk e];by_cases q:k<=i/\k<=j
    ·rw [if_pos q,if_pos ⟨Nat.zero_le _,q⟩]
    ·rw [if_neg q,if_neg λx=>q x.2]
   ·have e2:j=n:=om9;subst e2;rw [show zfL j a b i j=b i by unfold zfL;rw [if_neg e],h.eq j (Nat.le_refl _) i hi,if_neg om9,Rat.add_zero];refine zal λk hk=>?_;rw [zpn hk];by_cases q:k<=i
    ·rw [if_pos q,if_pos ⟨Nat.zero_le _,q,om9⟩]
    ·rw [if_neg q,if_neg λx=>q x.2.1]) c om9
  have hx:X c i=stF n (zfL n s λk=>X k k) c i n:=by
   unfold stF;rw [if_pos ⟨hc,om9⟩,zll om9];have h1:=h.eq c om9 i hi;have h2:=h.eq n (Nat.le_refl _) i hi;have hp:=h.pr (k:=c) om9;rw [if_pos hc] at h1;rw [if_neg om9,Rat.add_zero] at h2;have e1:zav n (λk=>if k<=i then s i k*X k k*(s k k*prF s k)⁻¹ else 0)=zav n (λk=>if k<c then(if k<=i then s i k*X k k*(s k k*prF s k)⁻¹ else 0) else 0)+zav n (λk=>if c<=k/\k<=i/\k<=n then tmF (zfL n s λk=>X k k) i n k else 0):=by
    rw [<-zcj];refine zal λk hk=>?_;rw [zpn hk];by_cases q:k<c
    ·rw [if_pos q,if_neg (by omega:¬(c<=k/\_)),Rat.add_zero]
    ·rw [if_neg q,Rat.zero_add];by_cases q2:k<=i
     ·rw [if_pos q2,if_pos ⟨om9,q2,om9⟩]
     ·rw [if_neg q2,if_neg λx=>q2 x.2.1]
   have e2:zav n (λk=>if k<c then(if k<=i then s i k*X k k*(s k k*prF s k)⁻¹ else 0) else 0)=zav c (λk=>if k<=i then s i k*X k k*(s k k*prF s k)⁻¹ else 0):=by
    rw [sumN_cut (m:=c) om9 λk h1 _=>if_neg om9];exact zal λk hk=>if_pos hk
   rw [e1,e2] at h2;generalize zav n (λk=>if c<=k/\k<=i/\k<=n then tmF (zfL n s λk=>X k k) i n k else 0)=u at h2⊢;generalize zav c (λk=>if k<=i then s i k*X k k*(s k k*prF s k)⁻¹ else 0)=v at h1 h2;have:(prF s c)⁻¹*X c i=u:=by grind
   rw [<-this];grind
  rw [hx];exact hL.at_ hn (λi hi j hj=>by
   unfold zfL
   split
   ·next e=>exact ha i hi j e
   ·exact hb i hi) hc hi om9 om9
 by_cases e:c<=i
 ·exact d c i e hi
 ·rw [h.late' hi om9 hc];exact d i i (Nat.le_refl i) hi
theorem Fwd.solves (h:Fwd n s b X)(hs:zdR n n a s){D:Rat}{z:Nat->Rat}(hz:∀k,k<n->zav n (λj=>if k<=j then s k j*z j else 0)=D*X k k):∀i,i<n->zav n (λj=>a i j*z j)=D*b i:=λi hi=>by
 have e1:zav n (λj=>a i j*z j)=zav n λj=>zav n λk=>if k<=i/\k<=j then tmF s i j k*z j else 0:=zal λj hj=>by
  rw [hs.all hi hj,zrl];refine zal λk _=>?_
  split
  ·rfl
  ·exact Rat.zero_mul _
 rw [e1,zic,h.eq n (Nat.le_refl _) i hi,if_neg om9,Rat.add_zero,zaZ];refine zal λk hk=>?_;by_cases e:k<=i
 ·rw [if_pos e];have e2:zav n (λj=>if k<=i/\k<=j then tmF s i j k*z j else 0)=s i k*(s k k*prF s k)⁻¹*zav n (λj=>if k<=j then s k j*z j else 0):=by
   rw [zaZ];refine zal λj _=>?_;by_cases q:k<=j
   ·rw [if_pos ⟨e,q⟩,if_pos q];unfold tmF;grind
   ·rw [if_neg λx=>q x.2,if_neg q,Rat.mul_zero]
  rw [e2,hz k hk];grind
 ·rw [if_neg e,zbq λj _=>if_neg λx=>e x.1,Rat.mul_zero]
theorem zqi {K:Nat}{z:Nat->Rat}(hn:n<=64)(ha:∀i,i<n->∀j,j<n->LI K (a i j))(hb:∀i,i<n->LI K (b i))(hD:zaJ n a≠0)(hz:∀i,i<n->zav n (λj=>a i j*z j)=zaJ n a*b i){k:Nat}(hk:k<n):z k=zaJ n (zaP a k b)/\LI (65+64*K) (z k):=by
 have e1:=zeR a hk z (λl i=>a i l) n;have e2:(zav n λl=>z l*zaJ n (zaP a k λi=>a i l))=zav n λl=>(if l=k then 1 else 0)*(z l*zaJ n a):=zal λl hl=>by
  by_cases e:l=k
  ·rw [if_pos e,e,zec,Rat.one_mul]
  ·rw [if_neg e,zei hk hl (Ne.symm e)];grind
 rw [e2,zep hk (λl=>z l*zaJ n a)] at e1;have e3:zaJ n (zaP a k λi=>zav n λl=>z l*a i l)=zaJ n a*zaJ n (zaP a k b):=by
  rw [<-zeh a hk];refine zbd λi hi j _=>?_;unfold zaP
  split
  ·show zav n (λl=>z l*a i l)=zaJ n a*b i;rw [<-hz i hi];exact zal λl _=>Rat.mul_comm _ _
  ·rfl
 rw [e3] at e1;have e4:z k=zaJ n (zaP a k b):=by grind
 refine⟨e4,?_⟩;rw [e4];refine(LI.det_ (K:=K) hn λi hi j hj=>?_).up ?_
 ·unfold zaP
  split
  ·exact hb i hi
  ·exact ha i hi j hj
 ·have:n*(K+1)<=64*(K+1):=Nat.mul_le_mul_right _ hn;omega
end
