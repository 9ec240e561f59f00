/- What this claim leans on. -/
import Derived.Test.YtipmllfnpldbdaaGreatDoorFVMade
set_option linter.unusedVariables false
set_option linter.unusedSimpArgs false
namespace Go.Proofs.YtipmllfnpldbdaaGreatDoor
open Go Go.RowKit Go.Proofs.Tryz
set_option maxHeartbeats 16000000
set_option maxRecDepth 100000
variable {M:List (List Rat)}{xs:List Rat}{g m n:Nat}{w:World}{A:zf}
section
variable {K K' L:Nat}{r:Rat}{xs ys:List Rat}{A B:zf}{n n' c d:Nat}{w:World}{s:Bool}{D:zf}{m e9:Nat}{U:zf}{u v:Nat}
end
theorem wg (h:yk w g n xs)(hn:n<=1073741824:=by omega):zy w (some ⟨g,0,none⟩) n n xs:=y6.row h za
section
variable {K K':Nat}{xs ys:List Rat}{A B:zf}{n n' c d:Nat}{w:World}
theorem Xq (hT:zu w)(h:n≠n'):
  Calls prog 23 #[.slice A n c,.slice B n' d] w (x6 w 0 false):=by
 obtain⟨g,i,bz⟩:=zF w 60 #[.bool false,.slice none 0 0,.slice none 0 0];have H:∀W,zg (Calls prog 62 #[.slice A n c,.slice B n' d,.func (.func 63) #[] #[]] W (iy W)):=λW=>Zc _ A B n n' c d W h;have HT:=zm w (λw' hb=>hT.on hb);have hB:=g;have HK:=zd i;clear h hT g i bz;go_enter func23,ntmps23;go_wp2_with fail;refine(H _).o.mono ?_;rintro e w1 ⟨rfl,hb⟩;have hB:=ze hB hb;have hk:=zj hb HK.o;clear hb HK;go_wp2_with fail;refine(kk (K:=1) (HT.o _ hB) (yh.nil w1) (λx hx=>by cases hx) zh zh).mono ?_;rintro e w2 ⟨b2,A2,n2,c2,E2,k2,f2,rfl,m,hb⟩;have j:=ze hB hb;have a:=zj hb hk;obtain⟨sc0,sf0,sc1,sf1,sc2,sf2⟩:=yg a (.bool b2) (.slice A2 n2 c2);obtain⟨r0,r1,r2⟩:=(yf a (.bool b2) (.slice A2 n2 c2) (.slice E2 k2 f2)).c3;have HG:=zd (uv false m a j (qX _));clear hb hB hk j a m;go_wp2;refine bodyPost_ret (v:=.tuple #[.agg #[.bool b2,.slice A2 n2 c2,.slice E2 k2 f2],.bool false]) (by simp [results,results23,go_sem,r0,r1,r2]) rfl ?_;exact HG.o
theorem bC (hT:zu w)(ha:zy w A n c xs)(hb:zy w B n d ys)(hx:zH K xs)(hy:zH K' ys)(hn:n<=1073741824:=by omega)(hK:K<=67108864:=by omega)(u:K'<=67108864:=by omega)(hS:1+n*(K+K'+1)<=67108864:=by omega):
  Calls prog 23 #[.slice A n c,.slice B n d] w (x6 w (xF xs ys) true):=by
 have D:=ha.len;have F:=hb.len;obtain⟨a,j,bz⟩:=zF w 60 #[.bool false,.slice none 0 0,.slice none 0 0];have H:=zd (fM (λx y=>x*y) 63 #[] xs ys A B n c d _ (ha.keep a) (hb.keep a) hn oR (λi hi w' C b b' A A' n n' c c' E E' k k' f f' h1 h2=>by
  rw [Array.append_empty];exact ll ((hT.on a).on C) h1 h2 (hx.at_ za) (hy.at_ za) hK u))
 have HT:=zm w (λw' hb=>hT.on hb);have hB:=a;have HK:=zd j;have HS:=zd (zH.mul hx hy);have hN:=hn;have z:=zd hS;clear ha hb hx hy hT a j bz D F hS;go_enter func23,ntmps23;go_wp2_with fail;refine H.o.mono ?_;rintro e w1 ⟨g,rfl,-,h2,hb⟩;have hB:=ze hB hb;have hk:=zj hb HK.o;have HV:=zd (wg h2 hN);clear hb HK h2 H;go_wp2_with fail;refine(kk (HT.o _ hB) HV.o HS.o hN z.o).mono ?_;rintro e w2 ⟨b2,A2,n2,c2,E2,k2,f2,rfl,t,hb⟩;have m:=ze hB hb;have h:=zj hb hk;obtain⟨sc0,sf0,sc1,sf1,sc2,sf2⟩:=yg h (.bool b2) (.slice A2 n2 c2);obtain⟨r0,r1,r2⟩:=(yf h (.bool b2) (.slice A2 n2 c2) (.slice E2 k2 f2)).c3;have HG:=zd (uv (r:=xF xs ys) true t h m (qX _));clear hb hB hk m h t HV HS;go_wp2;refine bodyPost_ret (v:=.tuple #[.agg #[.bool b2,.slice A2 n2 c2,.slice E2 k2 f2],.bool true]) (by simp [results,results23,go_sem,r0,r1,r2]) rfl ?_;exact HG.o
end
set_option maxHeartbeats 2000000
structure PR where
 co:List Rat
 kd:Int
 rhs:Rat
def wk (xs ys:List Rat):Rat:=if xs.length=ys.length then xF xs ys else 0
def wT (p:PR)(x:List Rat):Rat:=if p.co.length=x.length then xF p.co x - p.rhs else 0
theorem kF {K K':Nat}{ys:List Rat}{B:zf}{n' c d:Nat}{ok:Bool}(e:decide (xs.length=ys.length)=ok)(hT:zu w)(ha:zy w A n c xs)(hb:zy w B n' d ys)(hx:zH K xs)(hy:zH K' ys)(hn:n<=1073741824:=by omega)(hS:1+n*(K+K'+1)<=67108864:=by omega)(hK:K<=67108864:=by omega)(a:K'<=67108864:=by omega):
  Calls prog 23 #[.slice A n c,.slice B n' d] w (x6 w (wk xs ys) ok):=by
 subst e;have h1:=ha.len;have h2:=hb.len;unfold wk;by_cases h:xs.length=ys.length
 ·obtain rfl:n=n':=za;rw [if_pos h,decide_eq_true h];exact bC hT ha hb hx hy hn hK a hS
 ·rw [if_neg h,decide_eq_false h];exact Xq hT za
theorem zi.c5 {t:TypeId}{x y z u v:Value}(h:zi w g t #[x,y,z,u,v]):w.cell? ⟨g,0,none⟩=some x/\w.cell? ⟨g,1,none⟩=some y/\w.cell? ⟨g,2,none⟩=some z/\w.cell? ⟨g,3,none⟩=some u/\w.cell? ⟨g,4,none⟩=some v:=⟨h.cell 0,h.cell 1,h.cell 2,h.cell 3,h.cell 4⟩
section
variable {K K':Nat}{p:PR}{xs:List Rat}{C X:zf}{n n' c d:Nat}{w:World}{b:Bool}{B E:zf}{m e9 u v:Nat}
theorem Yg {r:Rat}(hT:zu w)(h:zt w r b B m e9 E u v)(z:zp K r)(hK:K+2<=67108864:=by omega):
  Calls prog 46 #[.agg #[.bool b,.slice B m e9,.slice E u v]] w (yc w r):=by
 obtain⟨d,i,j,bz⟩:=ya w 60 60 #[.bool b,.slice B m e9,.slice E u v] #[.bool false,.slice none 0 0,.slice none 0 0];obtain⟨g0,g1,g2⟩:=i.c3;have H:=zd (λW (hb:Below w.heap.size w W) (g:Nat) (hk:zi W g 60 #[.bool b,.slice B m e9,.slice E u v])=>kk (K:=K) (hT.on hb) (il hk (h.below hb)) (λx hx=>by rw [List.mem_singleton] at hx;exact hx▸z) zh za);have HB:=zd d;have HK:=zd j;have e0:ul [r]=r:=by show(0:Rat)+r=r;rw [YA]
 rw [e0] at H;clear hT h z d i j bz e0;go_enter func46,ntmps46;go_wp2_with fail;have e1:((w.alloc (.cells #[.bool b,.slice B m e9,.slice E u v] 60)).alloc (.cells #[.bool false,.slice none 0 0,.slice none 0 0] 60)).heap.size=w.heap.size+1+1:=zD;generalize (w.alloc (.cells #[.bool b,.slice B m e9,.slice E u v] 60)).alloc (.cells #[.bool false,.slice none 0 0,.slice none 0 0] 60)=W1 at*;rw [<-e1];obtain⟨oM,rl,v8⟩:=zF W1 60 #[.bool b,.slice B m e9,.slice E u v];refine(H.o _ (ze HB.o oM) _ rl).mono ?_;rintro e w2 ⟨b2,A2,n2,c2,E2,k2,f2,rfl,t,hb⟩;have hb:=ze oM hb;have a:=zj hb HK.o;obtain⟨sc0,sf0,sc1,sf1,sc2,sf2⟩:=yg a (.bool b2) (.slice A2 n2 c2);obtain⟨r0,r1,r2⟩:=(yf a (.bool b2) (.slice A2 n2 c2) (.slice E2 k2 f2)).c3;have HG:=zd (xu t a (ze HB.o hb) za);clear hb HB HK a t oM rl v8 H g0 g1 g2;go_wp2;refine bodyPost_ret (v:=.agg #[.bool b2,.slice A2 n2 c2,.slice E2 k2 f2]) (by simp [results,results46,go_sem,r0,r1,r2]) rfl ?_;exact HG.o
theorem mu {ok:Bool}(e:decide (p.co.length=xs.length)=ok)(hT:zu w)(h:zy w C n c p.co)(hr:zt w p.rhs b B m e9 E u v)(hx:zy w X n' d xs)(z:zH K p.co)(zr:zp K p.rhs)(zx:zH K' xs)(hn:n<=1073741824:=by omega)(hS:1+n*(K+K'+1)<=67108864:=by omega)(hK:K<=67108864:=by omega)(M:K'<=67108864:=by omega):
  Calls prog 24 #[.agg #[.slice C n c,.int .i64 p.kd,.bool b,.slice B m e9,.slice E u v],.slice X n' d] w (x6 w (wT p xs) ok):=by
 obtain⟨G,H,I,bz⟩:=ya w 83 60 #[.slice C n c,.int .i64 p.kd,.bool b,.slice B m e9,.slice E u v] #[.bool false,.slice none 0 0,.slice none 0 0];obtain⟨g0,g1,g2,g3,g4⟩:=H.c5;have HD:=zd (λW (hb:Below w.heap.size w W)=>kF e (hT.on hb) (h.keep hb) (hx.keep hb) z zx hn hS hK M);have HB:=zd G;have HK:=zd I;have HT:=zd (λW (hb:Below w.heap.size w W)=>hT.on hb);have HR:=zd (λW (hb:Below w.heap.size w W)=>hr.below hb);have t:zg (ok=true->zp (1+n*(K+K'+1)) (wk p.co xs)):=λhy=>by
  subst hy;have hl:=of_decide_eq_true e;unfold wk;rw [if_pos hl];exact lU h.len (by rw [<-hl];exact h.len) z zx
 have i:zg (wT p xs=if ok=true then wk p.co xs - p.rhs else 0):=by
  show _=_;subst e;unfold wT wk;by_cases hl:p.co.length=xs.length
  ·simp [hl]
  ·simp [hl]
 have y:=zd zr;have x:=zd hS;clear hT h hr hx z zr zx e G H I bz hS;generalize wk p.co xs=q at*;go_enter func24,ntmps24;cases ok with
 |true=>
   go_wp2_with fail;generalize (w.alloc (.cells #[.slice C n c,.int .i64 p.kd,.bool b,.slice B m e9,.slice E u v] 83)).alloc (.cells #[.bool false,.slice none 0 0,.slice none 0 0] 60)=W1 at*;refine(HD.o _ HB.o).mono ?_;rintro e w1 ⟨b1,A1,n1,c1,E1,k1,f1,rfl,j,hb⟩;obtain⟨st,d3,d4⟩:=zF w1 60 #[.bool b1,.slice A1 n1 c1,.slice E1 k1 f1];obtain⟨p0,p1,p2⟩:=d3.c3;have q2:=zq st (zq hb g2);have q3:=zq st (zq hb g3);have q4:=zq st (zq hb g4);have g:=ze (ze HB.o hb) st;have F:=zd (og (K:=1+n*(K+K'+1)) (K':=K) (HT.o _ g) (j.below st) (HR.o _ g) (t.o trivial) y.o x.o za);have D:=zd (zj st (zj hb HK.o));have A:=zd g;have e9:wT p xs=q - p.rhs:=by rw [i.o];rfl
   have E9:=zd e9;have N:w.heap.size<=w.heap.size+1:=za;clear HD HT HR HB HK t i y x j hb st d3 d4 g g0 g1 g2 g3 g4 e9;go_wp2_with fail;refine F.o.mono ?_;rintro e w3 ⟨b2,A2,n2,c2,E2,k2,f2,rfl,L,hb⟩;have J:=ze A.o hb;have a:=zj hb D.o;obtain⟨O,R,P,S,Q,T⟩:=yg a (.bool b2) (.slice A2 n2 c2);obtain⟨r0,r1,r2⟩:=(yf a (.bool b2) (.slice A2 n2 c2) (.slice E2 k2 f2)).c3;have HG:=zd (uv true L a J N);clear hb J a L A D F p0 p1 p2 q2 q3 q4;go_wp2;refine bodyPost_ret (v:=.tuple #[.agg #[.bool b2,.slice A2 n2 c2,.slice E2 k2 f2],.bool true]) (by simp [results,results24,go_sem,r0,r1,r2]) rfl ?_;rw [E9.o];exact HG.o
 |false=>
   go_wp2_with fail;generalize (w.alloc (.cells #[.slice C n c,.int .i64 p.kd,.bool b,.slice B m e9,.slice E u v] 83)).alloc (.cells #[.bool false,.slice none 0 0,.slice none 0 0] 60)=W1 at*;refine(HD.o _ HB.o).mono ?_;rintro e w1 ⟨b1,A1,n1,c1,E1,k1,f1,rfl,j,hb⟩;obtain⟨st,d3,d4⟩:=zF w1 60 #[.bool b1,.slice A1 n1 c1,.slice E1 k1 f1];have g:=ze (ze HB.o hb) st;have a:=zj st (zj hb HK.o);obtain⟨O,R,P,S,Q,T⟩:=yg a (.bool false) (.slice none 0 0);obtain⟨r0,r1,r2⟩:=(yf a (.bool false) (.slice none 0 0) (.slice none 0 0)).c3;have e9:wT p xs=0:=by rw [i.o];rfl
   have E9:=zd e9;have HG:=zd (uv (r:=0) false (mo _) a g (show w.heap.size<=w.heap.size+1 by omega));clear HD HT HR HB HK t i y x j hb st d3 d4 g a g0 g1 g2 g3 g4 e9;go_wp2;refine bodyPost_ret (v:=.tuple #[.agg #[.bool false,.slice none 0 0,.slice none 0 0],.bool false]) (by simp [results,results24,go_sem,r0,r1,r2]) rfl ?_;rw [E9.o];exact HG.o
end
structure mI (w:World)(A:zf)(n:Nat)(Ls:List (List Rat)):Prop where
 len:Ls.length=n
 num:∀i L,Ls[i]?=some L->∃(ad:Addr) (B:zf) (d:Nat),A=some ad/\ad.block<w.heap.size/\w.cell? (ad.add i)=some (.slice B L.length d)/\zy w B L.length d L
theorem mI.below {w':World}{Ls:List (List Rat)}(h:mI w A n Ls)(hb:Below w.heap.size w w'):mI w' A n Ls:=
 ⟨h.len,λi L hi=>by
  obtain⟨ad,B,d,e,h1,h2,h3⟩:=h.num i L hi;exact⟨ad,B,d,e,qJ h1 hb.size,zq hb h2,h3.keep hb⟩⟩
theorem nJ {α:Type}{xs:List α}{k:Nat}{d:α}(h:k<xs.length):xs[k]?=some (xs.getD k d):=by
 rw [qQ,qZ h];rfl
section
variable {K L:Nat}{rs:List Rat}{Ls:List (List Rat)}{A B:zf}{n n' c d:Nat}{w:World}
end
def vU (n m:Nat)(f:Nat->Nat->Rat):List (List Rat):=(List.range n).map λr=>(List.range m).map (f r)
def vI (M:List (List Rat))(r c:Nat):Rat:=(M.getD r []).getD c 0
structure wZ (M:List (List Rat))(n m:Nat):Prop where
 rows:M.length=n
 cols:∀L ∈ M,L.length=m
theorem wZ.row (h:wZ M n m){r:Nat}(hr:r<n):(M.getD r []).length=m:=by
 have hl:=h.rows;rw [qQ,qZ za];exact h.cols _ (xE _)
theorem Ve (n m:Nat)(f:Nat->Nat->Rat):wZ (vU n m f) n m:=⟨by simp [vU],λL hL=>by
 obtain⟨r,_,rfl⟩:=List.mem_map.1 hL;simp⟩
theorem Yx {f g:Nat->Nat->Rat}(h:∀r c,r<n->c<m->f r c=g r c):vU n m f=vU n m g:=by
 unfold vU;exact List.map_congr_left λr hr=>List.map_congr_left λc hc=>h r c (List.mem_range.1 hr) (List.mem_range.1 hc)
theorem Yk (h:xs.length=m):(List.range m).map (λc=>xs.getD c 0)=xs:=by
 subst h;apply YD
 ·simp
 ·intro i h1 h2;rw [List.getElem_map,List.getElem_range,qQ,qZ h2];rfl
theorem wZ.eq (h:wZ M n m):vU n m (vI M)=M:=by
 have hl:=h.rows;unfold vU;apply YD
 ·simp [hl]
 ·intro i h1 h2;rw [List.getElem_map,List.getElem_range];have e:M.getD i []=M[i]:=by rw [qQ,qZ h2];rfl
  show(List.range m).map (λc=>(M.getD i []).getD c 0)=M[i];rw [e];exact Yk (h.cols _ (xE h2))
theorem wZ.ext {A B:List (List Rat)}(hA:wZ A n m)(hB:wZ B n m)(h:∀r c,r<n->c<m->vI A r c=vI B r c):A=B:=by
 rw [<-hA.eq,<-hB.eq];exact Yx h
def ui (M:List (List Rat))(v:List Rat):List Rat:=M.map λL=>xF L v
theorem th (m:Nat):wZ [] 0 m:=⟨rfl,λL hL=>by cases hL⟩
theorem vt {zs:List Int}(h:∀z ∈ zs,-9223372036854775808<=z/\z<=9223372036854775807):zH 1 (yw zs):=λx hx=>by
 obtain⟨z,hz,rfl⟩:=List.mem_map.1 hx;exact zp.whole (vP (h z hz).1 (h z hz).2) zh
theorem pP (zs:List Int)(n:Nat)(hn:zs.length=n){w:World}{g:Nat}{t:TypeId}(h:zi w g t (zs.map (Value.int .i64)).toArray)(hz:∀z ∈ zs,-9223372036854775808<=z/\z<=9223372036854775807):nU w (some ⟨g,0,none⟩) n zs:=by
 subst hn;exact⟨rfl,λi hi=>by
  rw [qQ,qZ hi];exact hz _ (xE hi),λi hi=>⟨_,rfl,by
  rw [xh,h.cell,qQ,qZ hi];simp [hi]⟩⟩
theorem lm:oJ zu (λ_=>False):=jA (λ_ h=>h) (λh=>h.elim) (λh=>h.elim) (λh=>h.elim)
