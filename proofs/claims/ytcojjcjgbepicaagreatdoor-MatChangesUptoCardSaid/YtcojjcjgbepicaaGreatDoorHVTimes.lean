/- What this claim leans on. -/
import Derived.Test.YtcojjcjgbepicaaGreatDoorHMRow
namespace Go.Proofs.YtcojjcjgbepicaaGreatDoor
open Go Go.RowKit Go.Proofs.Tryz
set_option maxHeartbeats 16000000
set_option maxRecDepth 100000
set_option linter.unusedVariables false
set_option linter.unusedSimpArgs false
section
variable {K K' L:Nat}{r:Rat}{xs ys:List Rat}{A B:oA9}{n n' c d:Nat}{w:World}{s:Bool}{D:oA9}{m e9:Nat}{U:oA9}{u v:Nat}
end
theorem zcq {w:World}{g n:Nat}{xs:List Rat}(h:zda w g n xs)(hn:n<=1073741824:=by omega):zaL w (some ⟨g,0,none⟩) n n xs:=zbI.row h om9
section
variable {K K':Nat}{xs ys:List Rat}{A B:oA9}{n n' c d:Nat}{w:World}
theorem vec_dot (hT:zam w)(ha:zaL w A n c xs)(hb:zaL w B n d ys)(hx:zaI K xs)(hy:zaI K' ys)(hn:n<=1073741824:=by omega)(hK:K<=67108864:=by omega)(o:K'<=67108864:=by omega)(hS:1+n*(K+K'+1)<=67108864:=by omega):
  Calls prog 163 #[.slice A n c,.slice B n d] w (zcb w (zgY xs ys) true):=by
 have t:=ha.len;have u:=hb.len;obtain⟨a,j,bz⟩:=zaD w 53 #[.bool false,.slice none 0 0,.slice none 0 0];have H:=lh9 (zph (λx y=>x*y) 56 #[] xs ys A B n c d _ (ha.keep a) (hb.keep a) hn en_mul (λi hi w' s b b' A A' n n' c c' E E' k k' f f' h1 h2=>by
  rw [Array.append_empty];exact q_mul ((hT.on a).on s) h1 h2 (hx.at_ om9) (hy.at_ om9) hK o))
 have HT:=up9 w (λw' hb=>hT.on hb);have hB:=a;have HK:=lh9 j;have HS:=lh9 (zaI.mul hx hy);have hN:=hn;have p:=lh9 hS;clear ha hb hx hy hT a j bz t u hS;go_enter func163,ntmps163;go_wp2_with fail;refine H.out.mono ?_;rintro e w1 ⟨g,rfl,-,h2,hb⟩;have hB:=zac hB hb;have hk:=zad hb HK.out;have HV:=lh9 (zcq h2 hN);clear hb HK h2 H;go_wp2_with fail;refine(q_sum (HT.out _ hB) HV.out HS.out hN p.out).mono ?_;rintro e w2 ⟨b2,A2,n2,c2,E2,k2,f2,rfl,m,hb⟩;have l:=zac hB hb;have h:=zad hb hk;obtain⟨sc0,sf0,sc1,sf1,sc2,sf2⟩:=st3 h (.bool b2) (.slice A2 n2 c2);obtain⟨r0,r1,r2⟩:=(sn3 h (.bool b2) (.slice A2 n2 c2) (.slice E2 k2 f2)).c3;have HG:=lh9 (gb3 (r:=zgY xs ys) true m h l (Nat.le_refl _));clear hb hB hk l h m HV HS;go_wp2;refine bodyPost_ret (v:=.tuple #[.agg #[.bool b2,.slice A2 n2 c2,.slice E2 k2 f2],.bool true]) (by simp [results,results163,go_sem,r0,r1,r2]) rfl ?_;exact HG.out
end
open Go Go.RowKit Go.Proofs.Tryz
open Go.ChangeShapes Go.WideShapes Go.ChangeAt
set_option maxHeartbeats 16000000
set_option linter.unusedVariables false
theorem arg_ints {H:Type}{d:TypeId×Value->H}{P:Program}{W:World}{b:Nat}{t e:TypeId}{A:oA9}{n c:Nat}{x:DataW H×List MemPlace}(ht:P.underlying t=some (.slice e))(he:P.underlying e=some (.int .i64))(hc:P.cellsOf e=1)
  (h:DataW.trod d P W 0 (λ_=>true) true b t (Value.slice A n c).cells.toList=some x) (hb:Rows.uptoBulk x.1<=1048576):∃L,zdj W A n L/\n<=1048576:=by
 rcases open_ints ht he hc h with⟨hcs,_⟩|⟨a,len,cap,zs,hcs,_,hl,hm,hz,hx,hcell,hwz⟩
 ·simp [Value.cells] at hcs;obtain⟨rfl,rfl,rfl⟩:=hcs;exact⟨[],⟨rfl,λi hi=>absurd hi (Nat.not_lt_zero i),λi hi=>absurd hi (Nat.not_lt_zero i)⟩,om9⟩
 ·simp [Value.cells] at hcs;obtain⟨rfl,rfl,rfl⟩:=hcs;have hz':zs.length=c:=by simpa using hz
  subst hx;have hs:=UA.slice_le (H:=H) (lits .i64 (zs.take n)) (lits .i64 (zs.drop n));have hlen:(lits (H:=H) .i64 (zs.take n)).length+(lits (H:=H) .i64 (zs.drop n)).length=c:=by
   simp [lits];omega
  have hb':Rows.uptoBulk (DataW.slice (lits (H:=H) .i64 (zs.take n)) (lits (H:=H) .i64 (zs.drop n)))<=1048576:=hb;have hg:∀i,i<n->(zs.take n).getD i 0=zs.getD i 0:=λi hi=>by
   rw [List.getD_eq_getElem?_getD,List.getD_eq_getElem?_getD,List.getElem?_take_of_lt hi]
  refine⟨zs.take n,⟨by rw [List.length_take];omega,λi hi=>?_,λi hi=>⟨a,rfl,?_⟩⟩,om9⟩
  ·rw [hg i hi];have hw:=hwz (zs.getD i 0) (by rw [List.getD_eq_getElem?_getD,List.getElem?_eq_getElem om9];exact List.getElem_mem om9);have:=bounds_i64 hw;omega
  ·rw [hg i hi];exact hcell i om9
open Go Go.RowKit Go.Proofs.Tryz
set_option maxHeartbeats 16000000
set_option linter.unusedVariables false
theorem ratC {T:World->Prop}{M:Nat->Prop}(a:∀w,T w->zam w)(h0:M 0->RatG0 T)(h1:M 1->RatG1 T)(h2:M 2->RatG2 T):RatC T M where
 g0:=h0
 g1:=h1
 g2:=h2
 new p q b b' A D n m c d w hT hA hD hn hm h0:=zpK p q b A n c b' D m d w (a w hT) hA hD hn hm h0
 newNo p q b b' A D n m c d w hT hA hD hn hm h0:=zjp p q b A n c b' D m d w (a w hT) hA hD hn hm h0
 of p q w hT h1 h2 h3 h4 h0:=rat_of p q w (a w hT) h1 h2 h3 h4 h0
 ofNo p q w hT h1 h2 h0:=zqT p q w (a w hT) h1 h2 om9 om9 h0
 num r b A n c E k f w hT h hf:=rat_num r b A n c E k f w (a w hT) h hf
 den r b A n c E k f w hT h hf:=zlK r b A n c E k f w (a w hT) h hf
 sign r b A n c E k f w hT h hf:=zjr r b A n c E k f w (a w hT) h hf
 zero r b A n c E k f w hT h hf:=zbk r b A n c E k f w (a w hT) h hf
 isInt r b A n c E k f w hT h hf:=zbN r b A n c E k f w (a w hT) h hf
 bits r b A n c E k f w hT h hf:=rat_bits r b A n c E k f w (a w hT) h hf
 neg r b A n c E k f w hT h hf:=rat_neg r b A n c E k f w (a w hT) h hf
 inv r b A n c E k f w hT h hf h0:=rat_inv r b A n c E k f w (a w hT) h hf h0
 invNo r b A n c E k f w hT h hf h0:=zoL r b A n c E k f w (a w hT) h hf h0
 add r s b b' A A' n n' c c' E E' k k' f f' w hT h h' hf hf':=zpI r s b A n c E k f b' A' n' c' E' k' f' w (a w hT) h h' hf hf'
 cmp r s b b' A A' n n' c c' E E' k k' f f' w hT h h' hf hf':=zpJ r s b A n c E k f b' A' n' c' E' k' f' w (a w hT) h h' hf hf'
 same r s b b' A A' n n' c c' E E' k k' f f' w hT h h' hf hf':=zno r s b A n c E k f b' A' n' c' E' k' f' w (a w hT) h h' hf hf'
open Go Go.RowKit Go.Proofs.Tryz
set_option maxHeartbeats 16000000
set_option maxRecDepth 100000
set_option linter.unusedVariables false
set_option linter.unusedSimpArgs false
theorem zhu (n m:Nat)(f:Nat->Nat->Rat):(zbT n m f).length=n:=by simp [zbT]
theorem zjC {n m:Nat}(f:Nat->Nat->Rat){r:Nat}(h:r<n):(zbT n m f)[r]?=some ((List.range m).map (f r)):=by
 unfold zbT;rw [List.getElem?_map,List.getElem?_range h];rfl
theorem zoI (m:Nat)(f:Nat->Rat):((List.range m).map f).length=m:=si9
theorem zoH {m:Nat}(f:Nat->Rat){c:Nat}(h:c<m):((List.range m).map f)[c]?=some (f c):=by
 rw [List.getElem?_map,List.getElem?_range h];rfl
theorem zhj {w:World}{g n m:Nat}{M:List (List Rat)}(h:zbd (zaE zak) w 71 g n M)(hd:zbG M n m)(hn:n<=64)(hm:m<=64):zaH w (some ⟨g,0,none⟩) n n m M:=⟨hd,Nat.le_refl _,om9,hn,hm,h.rows,λad e=>by obtain⟨cs,hk,_⟩:=h.blk;injection e with e;subst e;exact⟨cs,hk⟩⟩
def GivesAt (f:Nat->Nat->Rat)(F:FuncId)(cap:Array Value)(n m:Nat)(w:World):Prop:=
 (∀ (args : Array Value) (w' : World),Sem.run prog (callFunc F args) w' = .ok (.enter F args) w') ∧
   ∀r c,r<n->c<m->∀w',Below w.heap.size w w'->Calls prog F (#[.int .i64 (r:Int),.int .i64 (c:Int)]++cap) w' (zaP w' (f r c))
theorem zdG {K:Nat}(f:Nat->Nat->Rat)(F:FuncId)(ak:Array Value)(n m:Nat)(w:World)(hT:zam w)(hG:GivesAt f F ak n m w)(hS:∀r c,r<n->c<m->SzQ K (f r c))(hn:n<=64:=by omega)(hm:m<=64:=by omega)(hK:K+2<=67108864:=by omega):
  Calls prog 71 #[.int .i64 (n:Int),.int .i64 (m:Int),.func (.func F) #[] ak] w (zbw w n m (zbT n m f)):=by
 obtain⟨hEn,hF⟩:=hG;have HF:=lh9 hF;have HT:=up9 w (λw' hb=>hT.on hb);have N:=lh9 (zhu n m f);have L:Hid (∀r,r<n->(zbT n m f)[r]?=some ((List.range m).map (f r))):=λr hr=>zjC f hr;have aa:Hid (∀r c,c<m->((List.range m).map (f r))[c]?=some (f r c)):=λr c hc=>zoH (f r) hc;have af:Hid (∀r,((List.range m).map (f r)).length=m):=λr=>zoI m (f r);have aj:Hid (∀r,r<n->zaI K ((List.range m).map (f r))):=λr hr x hx=>by
  obtain⟨c,hc,rfl⟩:=List.mem_map.1 hx;exact hS r c hr (List.mem_range.1 hc)
 have X:=lh9 (zbU n m f);obtain⟨B,I⟩:∃B:Nat->List Rat,(λr=>(List.range m).map (f r))=B:=⟨_,rfl⟩;have A:∀r,(List.range m).map (f r)=B r:=λr=>by rw [<-I]
 simp only [A] at L aa af aj;obtain⟨M,hM⟩:∃M,zbT n m f=M:=⟨_,rfl⟩;rw [hM] at N L X⊢;obtain⟨Z,hZ⟩:=zeL m om9;have HMK:∀W,(Instr.makeSlice 71 (.int .i64 (m:Int)) (.int .i64 (m:Int))).run prog W=.ok (.slice (some ⟨W.heap.size,0,none⟩) m m) (W.alloc (.cells Z 53)):=λW=>(hZ W).1;have ah:=lh9 (λW=>(hZ W).2);obtain⟨Y,hY⟩:=zkr n om9;have ag:∀W,(Instr.makeSlice 30 (.int .i64 (n:Int)) (.int .i64 (n:Int))).run prog W=.ok (.slice (some ⟨W.heap.size,0,none⟩) n n) (W.alloc (.cells Y 71)):=λW=>(hY W).1;have y:=lh9 (λW=>(hY W).2);obtain⟨b1,b2,b3,b4,b5⟩:=zbs w 32 71 32 #[.slice none 0 0,.int .i64 0] Y #[.slice (some ⟨w.heap.size+1,0,none⟩) n n,.int .i64 (m:Int)];clear hT hF hS I A hM hZ hY;unfold zbw;have i0:(0:Int)<=(n:Int):=om9;have i1:(0:Int)<=(m:Int):=om9;go_enter func71,ntmps71;go_wp2_with fail;have a:zbd (zaE zak) (((w.alloc (.cells #[.slice none 0 0,.int .i64 0] 32)).alloc (.cells Y 71)).alloc (.cells #[.slice (some ⟨w.heap.size+1,0,none⟩) n n,.int .i64 (m:Int)] 32)) 71 (w.heap.size+1) n (zcy [] M n 0):=by
  have h1:=y.out (w.alloc (.cells #[.slice none 0 0,.int .i64 0] 32));have e1:(w.alloc (.cells #[.slice none 0 0,.int .i64 0] 32)).heap.size=w.heap.size+1:=si9;rw [e1] at h1;rw [zbV];exact h1.below (zaq zas) (zaD _ _ _).1
 clear b3 y ag;obtain⟨g0,O⟩:∃g,w.heap.size=g:=⟨_,rfl⟩;have a0:w.heap.size<=g0:=om9;rw [O] at a b1 b2 b4 b5⊢;generalize ((w.alloc (.cells #[.slice none 0 0,.int .i64 0] 32)).alloc (.cells Y 71)).alloc (.cells #[.slice (some ⟨g0+1,0,none⟩) n n,.int .i64 (m:Int)] 32)=W1 at*;rw [<-O] at b1;clear O
 go_loopg [18] (n+1) (λg ix wr=>∃(k:Nat),k<=n/\n<g+k/\ix=.int .i64 k/\zbd (zaE zak) wr 71 (g0+1) n (zcy [] M n k)/\Below w.heap.size w wr/\Blk wr g0 32 #[.slice none 0 0,.int .i64 0]/\Blk wr (g0+1+1) 32 #[.slice (some ⟨g0+1,0,none⟩) n n,.int .i64 (m:Int)])
 case atStart=>exact⟨0,Nat.zero_le _,om9,rfl,a,b1,b2,b4⟩
 case round=>
  clear a b1 b2 b4 b5;obtain⟨k,hkn,hg,rfl,a,hB,t,C⟩:=hrel;obtain⟨wo,a1⟩:∃wo,wo=wr:=⟨_,rfl⟩;subst a1;by_cases hlt:k<n
  ·have ay:decide ((k:Int)<(n:Int))=true:=decide_eq_true om9;have i2:(0:Int)<=(k:Int):=om9;have i3:(k:Int)<(n:Int):=om9;have hg1:=a.lt;have ai:=lh9 a;have HB:=lh9 hB;have au:=lh9 t;have av:=lh9 C;have G:=lh9 (aa.out k);have o:=lh9 (af.out k);have H:=lh9 (aj.out k hlt);have E:=lh9 (L.out k hlt);obtain⟨R,hR⟩:∃R,B k=R:=⟨_,rfl⟩;rw [hR] at G o H E;clear a hB t C hR;go_wp2_with fail;have h:=ah.out wo;have b:Below wo.heap.size wo (wo.alloc (.cells Z 53)):=(Below.refl _ wo).alloc (Nat.le_refl _) _;rw [<-zbV 0 R m] at h;obtain⟨gr,al⟩:∃g,wo.heap.size=g:=⟨_,rfl⟩;have a2:wo.heap.size<=gr:=om9;rw [al] at h⊢;generalize wo.alloc (.cells Z 53)=W2 at*;clear al
   go_loopg [25] (m+1) (λg jx wr=>∃(j:Nat),j<=m/\m<g+j/\jx=.int .i64 j/\zda wr gr m (zcy 0 R m j)/\Below wo.heap.size wo wr)
   case atStart=>exact⟨0,Nat.zero_le _,om9,rfl,h,b⟩
   case round=>
    clear h b;obtain⟨j,hjm,hg2,rfl,h,b⟩:=hrel;by_cases hjl:j<m
    ·have az:decide ((j:Int)<(m:Int))=true:=decide_eq_true om9;have i4:(0:Int)<=(j:Int):=om9;have i5:(j:Int)<(m:Int):=om9;have ab:=lh9 h;have J:=lh9 b;have ar:=lh9 (G.out j hjl);clear h b;go_wp2_with fail;refine(HF.out k j hlt hjl _ (zac HB.out J.out)).mono ?_;rintro e w3 ⟨b3,A3,n3,c3,E3,k3,f3,rfl,an,hb⟩;have P:=ab.out.keep hb;have Q:=zbI.set_ zas P hjl an;rw [zco 0 R m j o.out hjl _ ar.out] at Q;obtain⟨q0,q1,q2,U,V,a3,a4,sc2,sf2⟩:=P.ready hjl (.bool b3) (.slice A3 n3 c3);have aw:=lh9 Q;have ap:=lh9 (zcB (j*3) (j*3+1) (j*3+2) (.bool b3) (.slice A3 n3 c3) (.slice E3 k3 f3) a2 (zac J.out hb));clear P Q hb an ab J;go_wp2;go_roundg (m - j)
     case measure=>omega
     case rel=>exact⟨j+1,om9,om9,by go_num,aw.out,ap.out⟩
    ·have hj:j=m:=om9;subst hj;have az:decide ((j:Int)<(j:Int))=false:=si9;have HV:=lh9 (zcq (zcn 0 R j o.out▸h));have ao:=zad b av.out;have d:=lh9 (ai.out.below (zaq zas) b);have u:=lh9 (zac HB.out b);have i:=lh9 (zad b au.out);have l:=lh9 ao;obtain⟨p0,p1⟩:=ao.c2;have s:=(Below.refl wr.heap.size wr).drew;clear h b;go_wp2_with fail;refine rg (csc p0 csn) (λhHeld=>?_);clear p0 p1;have HV:=lh9 (HV.out.keep s);have d:=lh9 (d.out.below (zaq zas) s);have u:=lh9 (zac u.out s);have i:=lh9 (zad s i.out);have l:=lh9 (zad s l.out);clear s;generalize wr.drew=D at*;refine tk 0 ?_;refine tk 1 ?_;refine tk 2 ?_;refine tk 3 ?_;refine rc 4 (λKK z=>?_);go_simp;(with_reducible refine(znE (HT.out _ u.out) HV.out H.out).mono ?_);rintro e w5 ⟨g5,rfl,hg5,am,hb⟩;refine z.out _ _ (Cs.below hHeld hb) (λhHeld=>?_);clear z KK;have S:=d.out.below (zaq zas) hb;have T:=zbd.set_ (zaq zas) S hlt (zcq am) o.out;rw [zco [] M n k N.out hlt _ E.out] at T;obtain⟨q0,U,V⟩:=S.ready hlt;have hne:g0+1+1≠g0+1:=om9;have ax:=lh9 T;have aq:=lh9 (zag (p:=⟨g0+1,k,none⟩) (.slice (some ⟨g5,0,none⟩) j j) (show w.heap.size<=g0+1 by omega) (zac u.out hb));have ac:=lh9 (Blk.far (p:=⟨g0+1,k,none⟩) (zad hb i.out) (by show g0≠g0+1;omega) (.slice (some ⟨g5,0,none⟩) j j));have ae:=lh9 (Blk.far (p:=⟨g0+1,k,none⟩) (zad hb l.out) (by show g0+1+1≠g0+1;omega) (.slice (some ⟨g5,0,none⟩) j j));clear hb S T am d u i l HV;refine tk 5 ?_;refine rc 6 (λKK z=>?_);go_simp;refine z.out _ _ ?_ (λhHeld=>?_)
     ·refine Cs.far hHeld ((zbS.refl (g0+1) _).set_ k _) ⟨?_,trivial⟩;show g0+1+1≠g0+1;omega
     clear z KK;refine rdn ?_;clear hHeld U V;go_wp2;go_roundg (n - k)
     case measure=>omega
     case rel=>exact⟨k+1,om9,om9,by go_num,ax.out,aq.out,ac.out,ae.out⟩
  ·have hk:k=n:=om9;subst hk;have ay:decide ((k:Int)<(k:Int))=false:=si9;have HM:=lh9 (zhj (zcn [] M k N.out▸a) X.out hn hm);obtain⟨p0,p1⟩:=C.c2;obtain⟨U,V,a3,a4⟩:=st2 t (.slice (some ⟨g0+1,0,none⟩) k k);obtain⟨r0,r1⟩:=(sn2 t (.slice (some ⟨g0+1,0,none⟩) k k) (.int .i64 (m:Int))).c2;have HG:=lh9 (gm2 HM.out (λad e=>by injection e with e;subst e;show g0<g0+1;omega) t hB a0);unfold zbw at HG;clear a hB t C;go_wp2;refine bodyPost_ret (v:=.agg #[.slice (some ⟨g0+1,0,none⟩) k k,.int .i64 (m:Int)]) (by simp [results,results71,go_sem,r0,r1]) rfl ?_;exact HG.out
open Go Go.RowKit Go.Proofs.Tryz
set_option maxHeartbeats 16000000
set_option maxRecDepth 100000
set_option linter.unusedVariables false
set_option linter.unusedSimpArgs false
theorem zkt (z:Int)(w:World):Calls prog 192 #[.int .i64 z] w (λe w'=>e=.returned (.bool false)/\w=w'):=by
 have h1:(z !=z)=false:=si9;go_enter func192,ntmps192;go_wp2;go_ret;exact⟨rfl,rfl⟩
theorem zmo (n m:Nat)(w:World):Calls prog 165 #[.int .i64 (n:Int),.int .i64 (m:Int)] w (λe w'=>e=.returned (.int .i64 (cmpN n m))/\w=w'):=by
 have H1:=lh9 (zkt (n:Int) w);have H2:=lh9 (zkt (m:Int) w);unfold cmpN;by_cases h1:n<m
 ·have hd:decide ((n:Int)<(m:Int))=true:=decide_eq_true om9;have a:decide (n<m)=true:=decide_eq_true om9;rw [if_pos h1];go_enter func165,ntmps165;go_wp2_with fail;refine H1.out.mono ?_;rintro e w1 ⟨rfl,rfl⟩;go_wp2_with fail;refine H2.out.mono ?_;rintro e w1 ⟨rfl,rfl⟩;go_wp2;go_ret;exact⟨rfl,rfl⟩
 ·have hd:decide ((n:Int)<(m:Int))=false:=decide_eq_false om9;have a:decide (n<m)=false:=decide_eq_false om9;rw [if_neg h1];by_cases h2:n=m
  ·rw [if_pos h2];have b:decide ((m:Int)<(n:Int))=false:=decide_eq_false om9;have c:decide ((n:Int)>(m:Int))=false:=decide_eq_false om9;have d:decide (m<n)=false:=decide_eq_false om9;clear h1 h2;go_enter func165,ntmps165;go_wp2_with fail;refine H1.out.mono ?_;rintro e w1 ⟨rfl,rfl⟩;go_wp2_with fail;refine H2.out.mono ?_;rintro e w1 ⟨rfl,rfl⟩;go_wp2;go_ret;exact⟨rfl,rfl⟩
  ·rw [if_neg h2];have b:decide ((m:Int)<(n:Int))=true:=decide_eq_true om9;have c:decide ((n:Int)>(m:Int))=true:=decide_eq_true om9;have d:decide (m<n)=true:=decide_eq_true om9;clear h1 h2;go_enter func165,ntmps165;go_wp2_with fail;refine H1.out.mono ?_;rintro e w1 ⟨rfl,rfl⟩;go_wp2_with fail;refine H2.out.mono ?_;rintro e w1 ⟨rfl,rfl⟩;go_wp2;go_ret;exact⟨rfl,rfl⟩
section
variable {K K':Nat}{xs ys:List Rat}{A B:oA9}{n n' c d:Nat}{w:World}
theorem zro {z:Int}(hz:zfa xs ys=z)(hT:zam w)(ha:zaL w A n c xs)(hb:zaL w B n' d ys)(hx:zaI K xs)(hy:zaI K' ys)(hn:n<=1073741824:=by omega)(hn':n'<=1073741824:=by omega)(hK:K<=67108864:=by omega)(C:K'<=67108864:=by omega):
  Calls prog 115 #[.slice A n c,.slice B n' d] w (zcl w z):=by
 have G:=ha.len;have H:=hb.len;have E:=lh9 G;have F:=lh9 H;have HZ:=lh9 hz;have x:Hid (∀i,i<n->SzQ K (xs.getD i 0)):=λi hi=>hx.at_ om9;have y:Hid (∀i,i<n'->SzQ K' (ys.getD i 0)):=λi hi=>hy.at_ om9;unfold zcl;have HA:=lh9 ha;have O:=lh9 hb;have HT:=up9 w (λw' hb=>hT.on hb);clear hT ha hb hx hy G H hz;have hB:=Below.refl w.heap.size w;have i0:(0:Int)<=(n:Int):=om9;obtain⟨N,hN⟩:∃N,min n n'=N:=⟨_,rfl⟩;have hNn:N<=n:=om9;have hNm:N<=n':=om9;have HN:=lh9 hN;have I:min (n:Int) (n':Int)=(N:Int):=om9;have J:(if (n':Int)<(n:Int) then(n':Int) else(n:Int))=(N:Int):=by split<;>omega
 have L:(if n'<n then(n':Int) else(n:Int))=(N:Int):=by split<;>omega
 clear hN;go_enter func115,ntmps115;go_wp2_with fail;clear I J L
 go_loopg [11] (N+1) (λg ix wr=>∃(k:Nat),k<=N/\N<g+k/\ix=.int .i64 k/\Hid (zfa (xs.drop k) (ys.drop k)=z)/\Below w.heap.size w wr)
 case atStart=>exact⟨0,Nat.zero_le _,om9,rfl,HZ,hB⟩
 case round=>
  clear hB;obtain⟨k,hkn,hg,rfl,D,hB⟩:=hrel;by_cases hlt:k<N
  ·have h:k<n:=om9;have f:k<n':=om9;obtain⟨ad,b1,B1,m1,d1,E1,u1,v1,rfl,-,m,o,p,hx⟩:=HA.out.get hB h;obtain⟨ae,b2,B2,m2,d2,E2,u2,v2,rfl,-,r,s,t,hy⟩:=O.out.get hB f;have S:decide ((k:Int)<(N:Int))=true:=decide_eq_true om9;have i1:(0:Int)<=(k:Int):=om9;have i2:(k:Int)<(n:Int):=om9;have i3:(k:Int)<(n':Int):=om9;have HX:=lh9 hx;have HY:=lh9 hy;have j:=lh9 hB;have u:k<xs.length:=by have:=E.out;omega
   have v:k<ys.length:=by have:=F.out;omega
   clear hx hy hB;by_cases h0:xs.getD k 0=ys.getD k 0
   ·have HQ:=lh9 (decide_eq_true h0);have R:Hid (zfa (xs.drop (k+1)) (ys.drop (k+1))=z):=by
     show _=_;rw [<-ziF u v h0];exact D.out
    clear h0 u v;go_wp2_with fail;have a:=(Below.refl wr.heap.size wr).drew;refine rg (csc m (csc o (csc p (csc r (csc s (csc t csn)))))) (λhHeld=>?_);refine tk 0 ?_;refine tk 1 ?_;refine tk 2 ?_;refine tk 3 ?_;refine tk 4 ?_;refine tk 5 ?_;refine tk 6 ?_;refine tk 7 ?_;refine rc 8 (λKK b=>?_);go_simp;(with_reducible refine(q_same HQ.out (HT.out _ (zac j.out a)) (HX.out.below a) (HY.out.below a) (x.out k h) (y.out k f) hK C).mono ?_);rintro e wa ⟨rfl,hb⟩;have a:=zac a hb;refine b.out _ _ (Cs.below hHeld hb) (λhHeld=>?_);clear b KK hb;refine tk 9 ?_;refine rdn ?_;have l:=lh9 (zac j.out a);clear hHeld a m o p r s t HX HY j;go_wp2;go_roundg (N - k)
    case measure=>omega
    case rel=>exact⟨k+1,om9,om9,by go_num,R,l.out⟩
   ·have HQ:=lh9 (decide_eq_false h0);have HF:Hid (zgx (xs.getD k 0) (ys.getD k 0)=z):=by
     show _=_;rw [<-zig u v h0];exact D.out
    clear h0 u v;go_wp2_with fail;have a:=(Below.refl wr.heap.size wr).drew;refine rg (csc m (csc o (csc p (csc r (csc s (csc t csn)))))) (λhHeld=>?_);refine tk 0 ?_;refine tk 1 ?_;refine tk 2 ?_;refine tk 3 ?_;refine tk 4 ?_;refine tk 5 ?_;refine tk 6 ?_;refine tk 7 ?_;refine rc 8 (λKK b=>?_);go_simp;(with_reducible refine(q_same HQ.out (HT.out _ (zac j.out a)) (HX.out.below a) (HY.out.below a) (x.out k h) (y.out k f) hK C).mono ?_);rintro e wa ⟨rfl,hb⟩;have a:=zac a hb;refine b.out _ _ (Cs.below hHeld hb) (λhHeld=>?_);clear b KK hb;refine tk 9 ?_;refine rdn ?_;have l:=lh9 (zac j.out a);have P:=lh9 (HX.out.below a);have Q:=lh9 (HY.out.below a);obtain⟨c0,c1,c2,e0,e1,e2,-⟩:=hHeld;clear a m o p r s t HX HY j;go_wp2_with fail;have a:=(Below.refl wa.heap.size wa).drew;refine rg (csc c0 (csc c1 (csc c2 (csc e0 (csc e1 (csc e2 csn)))))) (λhHeld=>?_);refine tk 0 ?_;refine tk 1 ?_;refine tk 2 ?_;refine tk 3 ?_;refine tk 4 ?_;refine tk 5 ?_;refine tk 6 ?_;refine tk 7 ?_;refine rc 8 (λKK b=>?_);go_simp;(with_reducible refine(zbX HF.out (q_cmp (HT.out _ (zac l.out a)) (P.out.below a) (Q.out.below a) (x.out k h) (y.out k f) hK C)).mono ?_);rintro e wb ⟨rfl,hb⟩;have a:=zac a hb;refine b.out _ _ (Cs.below hHeld hb) (λhHeld=>?_);clear b KK hb;refine tk 9 ?_;refine rdn ?_;have M:=lh9 (zac l.out a);clear hHeld a c0 c1 c2 e0 e1 e2;go_wp2;go_ret;exact⟨rfl,M.out⟩
  ·have hk:k=N:=om9;subst hk;have S:decide ((k:Int)<(k:Int))=false:=si9;have HF:Hid (cmpN n n'=z):=by
    have h1:=E.out;have h2:=F.out;have h3:=HN.out;have h4:=D.out;rw [cmpV_end (by rw [h1,h2];exact h3.symm),h1,h2] at h4;exact h4
   have l:=lh9 hB;have H1:=lh9 (zmo n n' wr);rw [HF.out] at H1;clear hB;go_wp2_with fail;refine H1.out.mono ?_;rintro e w1 ⟨rfl,rfl⟩;go_wp2;go_ret;exact⟨rfl,l.out⟩
theorem zfj {t:Bool}(e:decide (xs=ys)=t)(hT:zam w)(ha:zaL w A n c xs)(hb:zaL w B n' d ys)(hx:zaI K xs)(hy:zaI K' ys)(hn:n<=1073741824:=by omega)(b:n'<=1073741824:=by omega)(hK:K<=67108864:=by omega)(a:K'<=67108864:=by omega):
  Calls prog 50 #[.slice A n c,.slice B n' d] w (λe w'=>e=.returned (.bool t)/\Below w.heap.size w w'):=by
 obtain⟨z,hz⟩:∃z,zfa xs ys=z:=⟨_,rfl⟩;have H:=lh9 (zro hz hT ha hb hx hy hn b hK a);have ht:(z==0)=t:=by
  rw [<-e,<-hz];by_cases h:xs=ys
  ·rw [decide_eq_true h,(zlf xs ys).2 h];rfl
  ·rw [decide_eq_false h,beq_eq_false_iff_ne];exact λh9=>h ((zlf xs ys).1 h9)
 clear hz hT ha hb hx hy e;have HE:=lh9 ht;clear ht;go_enter func50,ntmps50;go_wp2_with fail;refine H.out.mono ?_;rintro e w1 ⟨rfl,hb⟩;go_wp2;go_ret;exact⟨by rw [<-HE.out];rfl,hb⟩
end
open Go Go.RowKit Go.Proofs.Tryz
set_option maxHeartbeats 16000000
set_option maxRecDepth 100000
set_option linter.unusedVariables false
set_option linter.unusedSimpArgs false
theorem zdv {r:Int}{n:Nat}{b:Bool}(e:inB r n=b)(A:oA9)(c:Nat)(z:Int)(w:World):Calls prog 95 #[.agg #[.slice A n c,.int .i64 z],.int .i64 r] w (λe w'=>e=.returned (.bool b)/\Below w.heap.size w w'):=e▸zow A n c z r w
theorem zeI {r:Int}{m:Nat}{b:Bool}(e:inB r m=b)(A:oA9)(n c:Nat)(w:World):Calls prog 105 #[.agg #[.slice A n c,.int .i64 (m:Int)],.int .i64 r] w (λe w'=>e=.returned (.bool b)/\Below w.heap.size w w'):=e▸zjd A n c m r w
section
variable {A:oA9}{n c m K:Nat}{MM:List (List Rat)}{w:World}
theorem zou {i j:Nat}(hT:zam w)(h:zaH w A n c m MM)(z:zay K MM)(hi:i<n)(hj:j<m)(hK:K+2<=67108864:=by omega):
  Calls prog 43 #[.agg #[.slice A n c,.int .i64 (m:Int)],.int .i64 (i:Int),.int .i64 (j:Int)] w (zaP w (atM MM i j)):=by
 have HR:=λW=>lh9 (zdv (zfc hi) A c (m:Int) W);have HC:=λW=>lh9 (zeI (zfc hj) A n c W);obtain⟨C,l,D,bz⟩:=zbg w 32 53 #[.slice A n c,.int .i64 (m:Int)] #[.bool false,.slice none 0 0,.slice none 0 0];obtain⟨g0,g1⟩:=l.c2;have HM:=lh9 h;have HS:=lh9 (z.at_ h.dims hi hj);have HT:=up9 w (λw' hb=>hT.on hb);have HB:=lh9 C;have p:=lh9 l;have r:=lh9 D;clear hT h z C l D bz;go_enter func43,ntmps43;go_wp2_with fail;refine(HR _).out.mono ?_;rintro e w1 ⟨rfl,hb⟩;have o:=lh9 (zac HB.out hb);have k:=lh9 (zad hb p.out);have s:=lh9 (zad hb r.out);obtain⟨g0,g1⟩:=k.out.c2;clear hb HB p r;go_wp2_with fail;refine(HC _).out.mono ?_;rintro e w2 ⟨rfl,hb⟩;have f:=lh9 (zac o.out hb);have t:=lh9 (zad hb k.out);have u:=lh9 (zad hb s.out);obtain⟨g0,g1⟩:=t.out.c2;clear hb o k s;obtain⟨ad,B,d,rfl,-,hc,ae,b3,A3,n3,c3,E3,k3,f3,rfl,-,h0,h1,h2,E⟩:=HM.out.place f.out hi hj;have i1:(0:Int)<=(i:Int):=om9;have i2:(i:Int)<(n:Int):=om9;have i3:(0:Int)<=(j:Int):=om9;have i4:(j:Int)<(m:Int):=om9;obtain⟨t1,t2,-⟩:=zaD w2 53 #[.bool b3,.slice A3 n3 c3,.slice E3 k3 f3];have HL:=lh9 (znF t2 (E.below t1));have g:=lh9 (zac f.out t1);have x:=lh9 (zad t1 u.out);have F:Hid (zaI K [atM MM i j]):=λy hy=>by rw [List.mem_singleton.1 hy];exact HS.out
 clear E t1 t2 t u f;go_wp2_with fail;(with_reducible refine(q_sum (HT.out _ g.out) HL.out F.out de9 om9).mono ?_);rintro e w5 ⟨b5,A5,n5,c5,E5,k5,f5,rfl,a,hb⟩;have a:zak w5 (atM MM i j) b5 A5 n5 c5 E5 k5 f5:=by
  have e:zdM [atM MM i j]=atM MM i j:=by rw [zfi,zkK,Rat.add_zero]
  rw [e] at a;exact a
 have b:=zad hb x.out;obtain⟨sc0,sf0,sc1,sf1,sc2,sf2⟩:=st3 b (.bool b5) (.slice A5 n5 c5);obtain⟨r0,r1,r2⟩:=(sn3 b (.bool b5) (.slice A5 n5 c5) (.slice E5 k5 f5)).c3;have HG:=lh9 (gq3 a b (zac g.out hb) om9);clear hb b a x g HL g0 g1 hc h0 h1 h2;go_wp2;refine bodyPost_ret (v:=.agg #[.bool b5,.slice A5 n5 c5,.slice E5 k5 f5]) (by simp [results,results43,go_sem,r0,r1,r2]) rfl ?_;exact HG.out
theorem mat_row {i:Nat}(hT:zam w)(h:zaH w A n c m MM)(z:zay K MM)(hi:i<n)(hK:K+2<=67108864:=by omega):
  Calls prog 32 #[.agg #[.slice A n c,.int .i64 (m:Int)],.int .i64 (i:Int)] w (zdA w m (MM.getD i [])):=by
 have hm:=h.hm;obtain⟨f,b,bz⟩:=zaD w 32 #[.slice A n c,.int .i64 (m:Int)];obtain⟨g0,g1⟩:=b.c2;have HR:=λW=>lh9 (zdv (zfc hi) A c (m:Int) W);have HM:=lh9 h;have HT:=up9 w (λw' hb=>hT.on hb);have HS:=lh9 (z.row (i:=i) (by rw [h.dims.rows];exact hi));have HB:=lh9 f;have HK:=lh9 b;clear hT h z f b bz;unfold zdA;go_enter func32,ntmps32;go_wp2_with fail;refine(HR _).out.mono ?_;rintro e w1 ⟨rfl,hb⟩;have a:=lh9 (zac HB.out hb);obtain⟨g0,g1⟩:=(zad hb HK.out).c2;obtain⟨ad,B,d,rfl,-,hc,hv⟩:=HM.out.row a.out hi;have i1:(0:Int)<=(i:Int):=om9;have i2:(i:Int)<(n:Int):=om9;have HV:=lh9 hv;clear hb HB HK hv;go_wp2_with fail;(with_reducible refine(znE (HT.out _ a.out) HV.out HS.out).mono ?_);rintro e w5 ⟨g5,rfl,g,j,hb⟩;have HG:=lh9 (And.intro (Nat.le_trans a.out.size g) (And.intro j (zac a.out hb)));clear g0 g1 g j hb hc;go_wp2
 go_ret2
 exact⟨g5,rfl,HG.out⟩
end
section
variable {A A':oA9}{n n' c c' m m' K K' q q':Nat}{MM NN:List (List Rat)}{w:World}
theorem en_vsame:∀(args:Array Value) (w':World),Sem.run prog (callFunc 50 args) w'=.ok (.enter 50 args) w':=Go.Proofs.enters_of func50 kr9 rfl
theorem same_len {α:Type}{xs ys:List α}{n n':Nat}(hx:xs.length=n)(hy:ys.length=n')(h:n≠n'):xs≠ys:=λe=>h (by rw [<-hx,<-hy,e])
theorem same_at {xs ys:List (List Rat)}{n k:Nat}(hx:xs.length=n)(hy:ys.length=n)(hk:k<n)(h:xs.getD k []≠ys.getD k []):xs≠ys:=λe=>h (by rw [e])
theorem same_all {xs ys:List (List Rat)}{n:Nat}(hx:xs.length=n)(hy:ys.length=n)(h:∀k,k<n->xs.getD k []=ys.getD k []):xs=ys:=by
 apply List.ext_getElem
 ·omega
 ·intro i h1 h2;have:=h i om9;rw [List.getD_eq_getElem?_getD,List.getD_eq_getElem?_getD,List.getElem?_eq_getElem h1,List.getElem?_eq_getElem h2] at this;exact this
theorem zog {t:Bool}(e:decide (MM=NN)=t)(hT:zam w)(h:zaJ (zaE zak) w A n MM)(h':zaJ (zaE zak) w A' n' NN)(z:zay K MM)(z':zay K' NN)(hr:∀L ∈ MM,L.length<=64)(u:∀L ∈ NN,L.length<=64)(hn:n<=64)(hK:K<=67108864)(v:K'<=67108864):
  Calls prog 110 #[.slice A n q,.slice A' n' q',.func (.func 50) #[] #[]] w (λe w'=>e=.returned (.bool t)/\Below w.heap.size w w'):=by
 have hl:=h.len;have f:=h'.len;have hEn:=en_vsame;by_cases hq:n=n'
 ·subst hq;have HA:=lh9 h;have D:=lh9 h';have HT:=up9 w (λw' hb=>hT.on hb);have HS:Hid (∀i,i<n->zaI K (MM.getD i [])):=λi hi=>z.row om9;have H:Hid (∀i,i<n->zaI K' (NN.getD i [])):=λi hi=>z'.row om9;have HR:Hid (∀i,i<n->(MM.getD i []).length<=64):=λi hi=>hr _ (List.mem_of_getElem? (zcd om9));have G:Hid (∀i,i<n->(NN.getD i []).length<=64):=λi hi=>u _ (List.mem_of_getElem? (zcd om9));have F:Hid (∀k,k<n->MM.getD k []≠NN.getD k []->false=t):=λk hk M=>by
   rw [<-e];exact(decide_eq_false (same_at hl f hk M)).symm
  have E:Hid ((∀k,k<n->MM.getD k []=NN.getD k [])->true=t):=λha=>by
   rw [<-e];exact(decide_eq_true (same_all hl f ha)).symm
  have hB:=Below.refl w.heap.size w;have e0:((n:Int) !=(n:Int))=false:=si9;have i0:(0:Int)<=(n:Int):=om9;clear h h' hT z z' hr u e hl f;go_enter func110,ntmps110;go_wp2_with fail
  go_loopg [17] (n+1) (λg ix wr=>∃(k:Nat),k<=n/\n<g+k/\ix=.int .i64 k/\Hid (∀i,i<k->MM.getD i []=NN.getD i [])/\Below w.heap.size w wr)
  case atStart=>exact⟨0,Nat.zero_le _,om9,rfl,λi hi=>by omega,hB⟩
  case round=>
   clear hB;obtain⟨k,hkn,hg,rfl,C,hB⟩:=hrel;by_cases hlt:k<n
   ·obtain⟨ad,B,d,rfl,-,hc,hv⟩:=HA.out.get (zaq zas) hB hlt rfl;obtain⟨ad',B',d',rfl,-,m,o⟩:=D.out.get (zaq zas) hB hlt rfl;have J:decide ((k:Int)<(n:Int))=true:=decide_eq_true om9;have i1:(0:Int)<=(k:Int):=om9;have i2:(k:Int)<(n:Int):=om9;have h5:=HR.out k hlt;have h6:=G.out k hlt;have p:=lh9 (F.out k hlt);have r:=lh9 (HS.out k hlt);have c:=lh9 (H.out k hlt);have s:Hid (MM.getD k []=NN.getD k []->∀i,i<k+1->MM.getD i []=NN.getD i []):=λhh i hi=>by
     by_cases e:i=k
     ·rw [e];exact hh
     ·exact C.out i om9
    obtain⟨X,hX⟩:∃X,MM.getD k []=X:=⟨_,rfl⟩;obtain⟨Y,hY⟩:∃Y,NN.getD k []=Y:=⟨_,rfl⟩;rw [hX] at hc hv h5 p r s;rw [hY] at m o h6 p c s;obtain⟨lx,x⟩:∃l,X.length=l:=⟨_,rfl⟩;obtain⟨ly,y⟩:∃l,Y.length=l:=⟨_,rfl⟩;rw [x] at hc hv h5;rw [y] at m o h6;have HV:=lh9 hv;have j:=lh9 o;have a:=lh9 hB;clear hX hY hv o x y hB;by_cases h0:X=Y
    ·have HQ:=lh9 (decide_eq_true h0);have I:=lh9 (s.out h0);clear h0;go_wp2_with fail;(with_reducible refine(zfj HQ.out (HT.out _ a.out) HV.out j.out r.out c.out om9 om9 hK v).mono ?_);rintro e w3 ⟨rfl,hb⟩;have b:=lh9 (zac a.out hb);clear hb hc m HV j a;go_wp2;go_roundg (n - k)
     case measure=>omega
     case rel=>exact⟨k+1,om9,om9,by go_num,I,b.out⟩
    ·have HQ:=lh9 (decide_eq_false h0);have HF:=lh9 (p.out h0);clear h0;go_wp2_with fail;(with_reducible refine(zfj HQ.out (HT.out _ a.out) HV.out j.out r.out c.out om9 om9 hK v).mono ?_);rintro e w3 ⟨rfl,hb⟩;have b:=lh9 (zac a.out hb);clear hb hc m HV j a;go_wp2;go_ret;exact⟨by rw [<-HF.out];rfl,b.out⟩
   ·have hk:k=n:=om9;subst hk;have J:decide ((k:Int)<(k:Int))=false:=si9;have HF:=lh9 (E.out C.out);have b:=lh9 hB;clear hB;go_wp2;go_ret;exact⟨by rw [<-HF.out];rfl,b.out⟩
 ·have e0:((n:Int) !=(n':Int))=true:=by rw [bne_iff_ne];omega
  have HF:Hid (false=t):=by rw [<-e];exact(decide_eq_false (same_len hl f hq)).symm
  clear h h' hT z z' hr u e hl f hq;go_enter func110,ntmps110;go_wp2;go_ret;exact⟨by rw [<-HF.out];rfl,Below.refl _ _⟩
theorem mat_same {t:Bool}(e:decide (m=m'/\MM=NN)=t)(hT:zam w)(h:zaH w A n c m MM)(h':zaH w A' n' c' m' NN)(z:zay K MM)(z':zay K' NN)(hK:K<=67108864:=by omega)(g:K'<=67108864:=by omega):
  Calls prog 46 #[.agg #[.slice A n c,.int .i64 (m:Int)],.agg #[.slice A' n' c',.int .i64 (m':Int)]] w (λe w'=>e=.returned (.bool t)/\Below w.heap.size w w'):=by
 obtain⟨a,b,d,bz⟩:=zbg w 32 32 #[.slice A n c,.int .i64 (m:Int)] #[.slice A' n' c',.int .i64 (m':Int)];obtain⟨g0,g1⟩:=b.c2;obtain⟨p0,p1⟩:=d.c2;by_cases hq:m=m'
 ·have e0:((m:Int)==(m':Int))=true:=by rw [beq_iff_eq];omega
  have e1:decide (MM=NN)=t:=by
   rw [<-e];by_cases hx:MM=NN
   ·rw [decide_eq_true hx,decide_eq_true ⟨hq,hx⟩]
   ·rw [decide_eq_false hx,decide_eq_false (λy=>hx y.2)]
  have hx:=h.hm;have hy:=h'.hm;have H:=lh9 (zog (q:=c) (q':=c') e1 (hT.on a) (h.keep a).rows (h'.keep a).rows z z' (λL hL=>by rw [h.dims.cols L hL];exact hx) (λL hL=>by rw [h'.dims.cols L hL];exact hy) h.hn hK g);have HB:=lh9 a;clear h h' hT z z' a b d bz e e1 hq;go_enter func46,ntmps46;go_wp2_with fail;refine H.out.mono ?_;rintro e w1 ⟨rfl,hb⟩;have f:=lh9 (zac HB.out hb);clear hb g0 g1 p0 p1;go_wp2;go_ret;exact⟨rfl,f.out⟩
 ·have e0:((m:Int)==(m':Int))=false:=by rw [beq_eq_false_iff_ne];omega
  have HF:Hid (false=t):=by rw [<-e];exact(decide_eq_false (λy=>hq y.1)).symm
  have HB:=lh9 a;clear h h' hT z z' a b d bz e hq;go_enter func46,ntmps46;go_wp2;go_ret;exact⟨by rw [<-HF.out];rfl,HB.out⟩
end
open Go Go.RowKit Go.Proofs.Tryz
set_option maxHeartbeats 16000000
set_option maxRecDepth 100000
set_option linter.unusedVariables false
set_option linter.unusedSimpArgs false
theorem refm_has (A:oA9)(n c m:Nat)(r s:Int)(w:World):Calls prog 65 #[.agg #[.slice A n c,.int .i64 (m:Int)],.int .i64 r,.int .i64 s] w (λe w'=>e=.returned (.bool (inB r n&&inB s m))/\Below w.heap.size w w'):=by
 obtain⟨a,d,bz⟩:=zaD w 36 #[.slice A n c,.int .i64 (m:Int)];obtain⟨g0,g1⟩:=d.c2;have HB:=lh9 a;clear a d bz;by_cases h1:0<=r
 ·have d1:decide (0<=r)=true:=decide_eq_true h1;by_cases h2:r<(n:Int)
  ·have d2:decide (r<(n:Int))=true:=decide_eq_true h2;by_cases h3:0<=s
   ·have d3:decide (0<=s)=true:=decide_eq_true h3;obtain⟨b,d4⟩:∃b,decide (s<(m:Int))=b:=⟨_,rfl⟩;have e:(inB r n&&inB s m)=b:=by unfold inB;rw [d1,d2,d3,d4];rfl
    rw [e];clear h1 h2 h3 e;go_enter func65,ntmps65;go_wp2;go_ret;exact⟨rfl,HB.out⟩
   ·have d3:decide (0<=s)=false:=decide_eq_false h3;have e:(inB r n&&inB s m)=false:=by unfold inB;rw [d1,d2,d3];simp
    rw [e];clear h1 h2 h3 e;go_enter func65,ntmps65;go_wp2;go_ret;exact⟨rfl,HB.out⟩
  ·have d2:decide (r<(n:Int))=false:=decide_eq_false h2;have e:(inB r n&&inB s m)=false:=by unfold inB;rw [d1,d2];simp
   rw [e];clear h1 h2 e;go_enter func65,ntmps65;go_wp2;go_ret;exact⟨rfl,HB.out⟩
 ·have d1:decide (0<=r)=false:=decide_eq_false h1;have e:(inB r n&&inB s m)=false:=by unfold inB;rw [d1];simp
  rw [e];clear h1 e;go_enter func65,ntmps65;go_wp2;go_ret;exact⟨rfl,HB.out⟩
