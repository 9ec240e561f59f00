/- What this claim leans on. -/
import Derived.Test.YtghpdeciaaagnaaGreatDoorQJ8Ord
namespace Go.Proofs.YtghpdeciaaagnaaGreatDoor
open Go Go.RowKit Go.Proofs.Tryz
set_option maxHeartbeats 16000000
set_option maxRecDepth 100000
set_option linter.unusedVariables false
set_option linter.unusedSimpArgs false
theorem zrw {K K' L:Nat}{x y r:Rat}{b b' s:Bool}{A A' D:oA9}{n n' m c c' d:Nat}{E E' U:oA9}{k k' u f f' v:Nat}{w:World}(g:Nat)(hT:zai w)(hr:zaf w r s D m d U u v)(hk:Blk w g 41 #[.bool s,.slice D m d,.slice U u v])
  (h:zaf w x b A n c E k f) (h':zaf w y b' A' n' c' E' k' f') (zx:SzQ K x) (zy:SzQ K' y) (zr:SzQ L r) (hK:K<=67108864) (hK':L+K'<=67108864):
  Calls prog 125 #[.agg #[.bool b,.slice A n c,.slice E k f],.agg #[.bool b',.slice A' n' c',.slice E' k' f'],.pointer (some ⟨g,0,none⟩)] w (zaE w (x+r*y)):=by
 have HT:=up9 w (λw' hb=>hT.on hb);have HX:=up9 w (λw' hb=>h.below hb);have HY:=up9 w (λw' hb=>h'.below hb);have HR:=up9 w (λw' hb=>hr.below hb);have HK:=up9 w (λw' hb=>zab hb hk);have J:=lh9 zx;have l:=lh9 zy;have j:=lh9 zr;clear hT hr hk h h' zx zy zr;obtain⟨o,t,z,B,bz⟩:=zbT w 41 41 41 #[.bool b,.slice A n c,.slice E k f] #[.bool b',.slice A' n' c',.slice E' k' f'] #[.bool false,.slice none 0 0,.slice none 0 0];have i:=lh9 o;have G:=lh9 t;have H:=lh9 z;have I:=lh9 B;clear o t z B bz;go_enter func125,ntmps125;go_wp2_with fail;generalize ((w.alloc (.cells #[.bool b,.slice A n c,.slice E k f] 41)).alloc (.cells #[.bool b',.slice A' n' c',.slice E' k' f'] 41)).alloc (.cells #[.bool false,.slice none 0 0,.slice none 0 0] 41)=W1 at*;obtain⟨p0,p1,p2⟩:=G.out.c3;obtain⟨q0,q1,q2⟩:=H.out.c3;obtain⟨g0,g1,g2⟩:=(HK.out _ i.out).c3;have hB:=i.out;have kr:=I.out;have a:=(Below.refl W1.heap.size W1).drew;refine rg (csc p0 (csc p1 (csc p2 (csc g0 (csc g1 (csc g2 (csc q0 (csc q1 (csc q2 csn))))))))) (λhHeld=>?_);refine tk 0 ?_;refine tk 1 ?_;refine tk 2 ?_;refine rc 3 (λKK hK=>?_);go_simp;(with_reducible refine(zcM (HT.out _ (zaa hB a)) (HR.out _ (zaa hB a)) (HY.out _ (zaa hB a)) j.out l.out om9 om9).mono ?_);rintro e wa ⟨b1,A1,n1,c1,E1,k1,f1,rfl,C,hb⟩;have a:=zaa a hb;refine hK.out _ _ (Cs.below hHeld hb) (λhHeld=>?_);clear hK KK hb;refine rc 4 (λKK hK=>?_);go_simp;(with_reducible refine(q_add (HT.out _ (zaa hB a)) (HX.out _ (zaa hB a)) C J.out (j.out.mul l.out) om9 om9).mono ?_);rintro e wb ⟨b2,A2,n2,c2,E2,k2,f2,rfl,F,hb⟩;have a:=zaa a hb;refine hK.out _ _ (Cs.below hHeld hb) (λhHeld=>?_);clear hK KK hb;have kr:=zab a kr;obtain⟨M,P,N,Q,O,R⟩:=st3 kr (.bool b2) (.slice A2 n2 c2);obtain⟨r0,r1,r2⟩:=(sn3 kr (.bool b2) (.slice A2 n2 c2) (.slice E2 k2 f2)).c3;have HG:=lh9 (gq3 F kr (zaa hB a) om9);refine rc 5 (λKK hK=>?_);go_simp;refine hK.out _ _ ?_ (λhHeld=>?_)
 ·have hg:g<w.heap.size:=by
   have h1:=(HK.out _ (Below.refl _ w)).lt;exact h1
  refine Cs.far hHeld (zce _ _ _ _ _) ?_;refine⟨?_,?_,?_,?_,?_,?_,?_,?_,?_,trivial⟩<;>(simp;try omega)
 clear hK KK;refine rdn ?_;clear M P N Q O R hHeld C F kr;go_wp2;refine bodyPost_ret (v:=.agg #[.bool b2,.slice A2 n2 c2,.slice E2 k2 f2]) (by simp [results,results125,go_sem,r0,r1,r2]) rfl ?_;exact HG.out
section
variable {K K' L:Nat}{r:Rat}{xs ys:List Rat}{A B:oA9}{n n' c d:Nat}{w:World}{s:Bool}{D:oA9}{m e9:Nat}{U:oA9}{u v:Nat}
theorem vec_addt (hT:zai w)(ha:zaH w A n c xs)(hr:zaf w r s D m e9 U u v)(hb:zaH w B n d ys)(hx:zat K xs)(zr:SzQ L r)(hy:zat K' ys)(hn:n<=1073741824:=by omega)(hK:K<=67108864:=by omega)(l:L+K'<=67108864:=by omega):
  Calls prog 54 #[.slice A n c,.agg #[.bool s,.slice D m e9,.slice U u v],.slice B n d] w (zdg w n (zdn xs r ys)):=by
 have hla:=ha.len;have hlb:=hb.len;obtain⟨a,j,bz⟩:=zax w 41 #[.bool s,.slice D m e9,.slice U u v];have hmf:∀(fn:Fn) (first cap:Array Value) (w:World),(Instr.makeFunc fn first cap).run prog w=.ok (.func fn first cap) w:=λ_ _ _ _=>rfl;have H:=lh9 (zjX (λx y=>x+r*y) 125 #[.pointer (some ⟨w.heap.size,0,none⟩)] xs ys A B n c d _ (ha.keep a) (hb.keep a) hn en_addt (λi hi w' h b b' A A' n n' c c' E E' k k' f f' h1 h2=>
  zrw (w.heap.size) ((hT.on a).on h) ((hr.below a).below h) (zab h j) h1 h2 (hx.at_ om9) (hy.at_ om9) zr hK l))
 have hB:=a;clear ha hb hx hy hT hr a j bz;go_enter func54,ntmps54;go_wp2_with fail;refine H.out.mono ?_;rintro e w1 ⟨g,rfl,h1,h2,h3⟩;have HG:=lh9 (And.intro (Nat.le_trans hB.size h1) (And.intro h2 (zaa hB h3)));clear h1 h2 h3 hB;go_wp2
 go_ret2
 exact⟨g,rfl,HG.out⟩
end
theorem zaR {w:World}{g n:Nat}{xs:List Rat}(h:zaI w g n xs)(hn:n<=1073741824:=by omega):zaH w (some ⟨g,0,none⟩) n n xs:=zbm.row h om9
section
variable {K K':Nat}{xs ys:List Rat}{A B:oA9}{n n' c d:Nat}{w:World}
theorem zfv (hT:zai w)(ha:zaH w A n c xs)(hb:zaH w B n d ys)(hx:zat K xs)(hy:zat K' ys)(hn:n<=1073741824:=by omega)(hK:K<=67108864:=by omega)(o:K'<=67108864:=by omega)(hS:1+n*(K+K'+1)<=67108864:=by omega):
  Calls prog 155 #[.slice A n c,.slice B n d] w (zbX w (zdY xs ys) true):=by
 have u:=ha.len;have z:=hb.len;obtain⟨a,j,bz⟩:=zax w 41 #[.bool false,.slice none 0 0,.slice none 0 0];have H:=lh9 (zjX (λx y=>x*y) 38 #[] xs ys A B n c d _ (ha.keep a) (hb.keep a) hn en_mul (λi hi w' t b b' A A' n n' c c' E E' k k' f f' h1 h2=>by
  rw [Array.append_empty];exact zcM ((hT.on a).on t) h1 h2 (hx.at_ om9) (hy.at_ om9) hK o))
 have HT:=up9 w (λw' hb=>hT.on hb);have hB:=a;have HK:=lh9 j;have HS:=lh9 (zat.mul hx hy);have hN:=hn;have s:=lh9 hS;clear ha hb hx hy hT a j bz u z hS;go_enter func155,ntmps155;go_wp2_with fail;refine H.out.mono ?_;rintro e w1 ⟨g,rfl,-,h2,hb⟩;have hB:=zaa hB hb;have hk:=zab hb HK.out;have HV:=lh9 (zaR h2 hN);clear hb HK h2 H;go_wp2_with fail;refine(q_sum (HT.out _ hB) HV.out HS.out hN s.out).mono ?_;rintro e w2 ⟨b2,A2,n2,c2,E2,k2,f2,rfl,m,hb⟩;have l:=zaa hB hb;have h:=zab hb hk;obtain⟨sc0,sf0,sc1,sf1,sc2,sf2⟩:=st3 h (.bool b2) (.slice A2 n2 c2);obtain⟨r0,r1,r2⟩:=(sn3 h (.bool b2) (.slice A2 n2 c2) (.slice E2 k2 f2)).c3;have HG:=lh9 (gb3 (r:=zdY xs ys) true m h l (Nat.le_refl _));clear hb hB hk l h m HV HS;go_wp2;refine bodyPost_ret (v:=.tuple #[.agg #[.bool b2,.slice A2 n2 c2,.slice E2 k2 f2],.bool true]) (by simp [results,results155,go_sem,r0,r1,r2]) rfl ?_;exact HG.out
end
theorem zmJ {p:Int}{w:World}(hT:zai w)(hp:zcK p):
  Calls prog 89 #[.agg #[.int .i64 p,.int .i64 0]] w (zaE w (qOf p 0)):=by
 rw [qOf_zero];obtain⟨g,h⟩:=hp;have HT:=up9 w (λw' hb=>hT.on hb);obtain⟨b,c,d,bz⟩:=zbO w 127 41 #[.int .i64 p,.int .i64 0] #[.bool false,.slice none 0 0,.slice none 0 0];obtain⟨g0,g1⟩:=c.c2;have HB:=lh9 b;have HK:=lh9 d;clear hT b c d bz;go_enter func89,ntmps89;go_wp2_with fail;clear g0 g1;(with_reducible refine(zgt p _ (HT.out _ HB.out) g h).mono ?_);rintro e w2 ⟨b2,A2,n2,c2,E2,k2,f2,rfl,f,hb⟩;have a:=zab hb HK.out;obtain⟨sc0,sf0,sc1,sf1,sc2,sf2⟩:=st3 a (.bool b2) (.slice A2 n2 c2);obtain⟨r0,r1,r2⟩:=(sn3 a (.bool b2) (.slice A2 n2 c2) (.slice E2 k2 f2)).c3;have HG:=lh9 (gq3 f a (zaa HB.out hb) om9);clear hb a f HB HK;go_wp2;refine bodyPost_ret (v:=.agg #[.bool b2,.slice A2 n2 c2,.slice E2 k2 f2]) (by simp [results,results89,go_sem,r0,r1,r2]) rfl ?_;exact HG.out
theorem zmK {p q:Int}{w:World}(hT:zai w)(hp:zcK p)(hq:zcK q)(h0:q≠0):
  Calls prog 89 #[.agg #[.int .i64 p,.int .i64 q]] w (zaE w (qOf p q)):=by
 rw [qOf_ne h0];obtain⟨h,i⟩:=hp;obtain⟨j,k⟩:=hq;have H0:=lh9 h0;have hd0:(q==0)=false:=by rw [beq_eq_false_iff_ne];exact h0
 have HT:=up9 w (λw' hb=>hT.on hb);obtain⟨b,c,d,bz⟩:=zbO w 127 41 #[.int .i64 p,.int .i64 q] #[.bool false,.slice none 0 0,.slice none 0 0];obtain⟨g0,g1⟩:=c.c2;have HB:=lh9 b;have HK:=lh9 d;clear hT b c d bz h0;go_enter func89,ntmps89;go_wp2_with fail;clear g0 g1;(with_reducible refine(rat_of p q _ (HT.out _ HB.out) h i j k H0.out).mono ?_);rintro e w2 ⟨b2,A2,n2,c2,E2,k2,f2,rfl,f,hb⟩;obtain⟨s1,s2,s3⟩:=zax w2 41 #[.bool b2,.slice A2 n2 c2,.slice E2 k2 f2];obtain⟨p0,p1,p2⟩:=s2.c3;have a:=zab s1 (zab hb HK.out);have g:=f.below s1;obtain⟨sc0,sf0,sc1,sf1,sc2,sf2⟩:=st3 a (.bool b2) (.slice A2 n2 c2);obtain⟨r0,r1,r2⟩:=(sn3 a (.bool b2) (.slice A2 n2 c2) (.slice E2 k2 f2)).c3;have HG:=lh9 (gq3 g a (zaa (zaa HB.out hb) s1) om9);clear hb a f g HB HK s1 s2 s3;go_wp2;refine bodyPost_ret (v:=.agg #[.bool b2,.slice A2 n2 c2,.slice E2 k2 f2]) (by simp [results,results89,go_sem,r0,r1,r2]) rfl ?_;exact HG.out
theorem zqA {p q:Int}{w:World}(hT:zai w)(hp:zcK p)(hq:zcK q):
  Calls prog 89 #[.agg #[.int .i64 p,.int .i64 q]] w (zaE w (qOf p q)):=by
 by_cases h0:q=0
 ·subst h0;exact zmJ hT hp
 ·exact zmK hT hp hq h0
def zgB (L:List (Int×Int)):List Rat:=L.map λq=>qOf q.1 q.2
theorem zhv (L:List (Int×Int)):(zgB L).length=L.length:=List.length_map _
def GivesM (w:World)(n:Nat)(xs:List Rat)(e:Ending)(w':World):Prop:=∃(A:oA9) (c:Nat),e=.returned (.slice A n c)/\zaH w' A n c xs/\(∀ad,A=some ad->w.heap.size<=ad.block)/\Below w.heap.size w w'
theorem zoo {A:oA9}{n c:Nat}{L:List (Int×Int)}{w:World}(hT:zai w)(h:zbs w A n c L):
  Calls prog 29 #[.slice A n c] w (GivesM w n (zgB L)):=by
 obtain⟨af,ae,P,Q,R⟩:=info_parts zhR;have hn0:n<=1048576:=Nat.le_trans h.fits h.small;have HL:=lh9 h.len;have HG:Hid (∀k,k<n->zcK (L.getD k (0,0)).1/\zcK (L.getD k (0,0)).2/\∃ad,A=some ad/\ad.block<w.heap.size/\w.cell? (ad.add (k*2))=some (.int .i64 (L.getD k (0,0)).1)/\w.cell? (ad.add (k*2+1))=some (.int .i64 (L.getD k (0,0)).2)):=λk hk=>by
  have hl:=h.len;have e:L[k]?=some (L.getD k (0,0)):=by rw [List.getD_eq_getElem?_getD,List.getElem?_eq_getElem om9];rfl
  obtain⟨h1,h2⟩:=h.ints _ (List.mem_of_getElem? e);exact⟨h1,h2,h.row k _ e⟩
 have HS:Hid (∀k,k<n->zgB (L.take (k+1))=zgB (L.take k)++[qOf (L.getD k (0,0)).1 (L.getD k (0,0)).2]):=λk hk=>by
  have hl:=h.len;unfold zgB;rw [List.take_succ_eq_append_getElem om9,List.map_append,List.getD_eq_getElem?_getD,List.getElem?_eq_getElem om9];rfl
 have HT:=up9 w (λw' hb=>hT.on hb);unfold GivesM;clear h hT;have hB:=Below.refl w.heap.size w;go_enter func29,ntmps29;go_wp2_with fail
 go_loopg [3,4] (n+1) (λg sl ix wr=>∃(k:Nat) (v:Value) (vs:List Value),k<=n/\n<g+k/\ix=.int .i64 k/\v=sl/\zcc zaf wr w.heap.size 41 v (zgB (L.take k)) vs/\Below w.heap.size w wr)
 case atStart=>exact⟨0,_,_,Nat.zero_le _,om9,rfl,rfl,zcc.nil _ _ _,hB⟩
 case round=>
  clear hB;obtain⟨k,v,vs,hkn,hg,rfl,rfl,a,hB⟩:=hrel;by_cases hlt:k<n
  ·obtain⟨d,f,ad,rfl,hadb,i,l⟩:=HG.out k hlt;have E:=lh9 (HS.out k hlt);obtain⟨q,hq⟩:∃q,L.getD k (0,0)=q:=⟨_,rfl⟩;rw [hq] at d f i l E;obtain⟨q1,q2⟩:=q;dsimp only at d f i l E;have i:=zac hB i;have l:=ziG (zac hB l);have ac:decide ((k:Int)<(n:Int))=true:=decide_eq_true om9;have i1:(0:Int)<=(k:Int):=om9;have i2:(k:Int)<(n:Int):=om9;have K:=lh9 a;have G:=lh9 hB;have U:=lh9 d;have V:=lh9 f;have o:(zgB (L.take k)).length=k:=by rw [zhv,List.length_take,HL.out];omega
   have I:=lh9 o;clear a hB d f hq o;go_wp2_with fail;(with_reducible refine(zqA (HT.out _ G.out) U.out V.out).mono ?_);rintro e w5 ⟨b5,B5,m5,d5,E5,u5,f5,rfl,O,hb⟩;obtain⟨t1,t2,_⟩:=zax w5 41 #[.bool b5,.slice B5 m5 d5,.slice E5 u5 f5];obtain⟨ag,ah,ai⟩:=t2.c3;have F:=zaa hb t1;have a:=zcc.below zak K.out F;have HX:=lh9 (O.below t1);have HB:=lh9 (zaa G.out F);have m:∀j u,[Value.bool b5,.slice B5 m5 d5,.slice E5 u5 f5][j]?=some u->(w5.alloc (.cells #[.bool b5,.slice B5 m5 d5,.slice E5 u5 f5] 41)).cell? ((⟨w5.heap.size,0,none⟩:Addr).add j)=some u:=λj u hu=>by
    rw [zar]
    match j,hu with
    |0,hu=>simp at hu;subst hu;exact t2.cell 0
    |1,hu=>simp at hu;subst hu;exact t2.cell 1
    |2,hu=>simp at hu;subst hu;exact t2.cell 2
   have D:=lh9 m;have M:Hid (∀u ∈ [Value.bool b5,.slice B5 m5 d5,.slice E5 u5 f5],u.oneCell'=true):=by intro u hu;simp at hu;rcases hu with rfl|rfl|rfl<;>rfl
   have X:Hid (∀u ∈ [Value.bool b5,.slice B5 m5 d5,.slice E5 u5 f5],zgM u):=by intro u hu y z;simp at hu;rcases hu with rfl|rfl|rfl<;>(intro h9;cases h9)
   have aa:Hid (∀u ∈(Value.agg #[.bool false,.slice none 0 0,.slice none 0 0]).cells.toList,zgM u):=by intro u hu y z;simp [Value.cells] at hu;rcases hu with rfl|rfl<;>(intro h9;cases h9)
   have H:Hid (w.heap.size<=(w5.alloc (.cells #[.bool b5,.slice B5 m5 d5,.slice E5 u5 f5] 41)).heap.size):=HB.out.size;have t:=a.own;rw [I.out] at t;have N:=lh9 t;have J:=lh9 a.nou;have Z:=lh9 a;have Y:=lh9 (λr (h:v.ownBlock=some r)=>a.own.lt r h);clear hb F O m a t1 t2 i l ag ah ai t;go_wp2_with (at_builtin;go_loud (refine zhI _ rfl (.tmp 11) (.tmp 17) 61 rfl w.heap.size 41 af (.agg #[.bool false,.slice none 0 0,.slice none 0 0]) 3 56 underlying61 ae P Q R rfl de9 v k vs rfl N.out ⟨w5.heap.size,0,none⟩ 1 1 [.bool b5,.slice B5 m5 d5,.slice E5 u5 f5] rfl rfl D.out M.out (by unfold maxLen;omega) om9 H.out J.out aa.out X.out ?_;intro v' w8 B b ab s;have C:=lh9 (zcc.grow (n:=k+1) zak Z.out HX.out B (by rw [I.out]) b s);have T:=lh9 (HB.out.grown b H.out (λr hr=>(Y.out r hr).1));clear B b ab s));rw [<-E.out] at C;go_roundg (n - k)
   case measure=>omega
   case rel=>exact⟨k+1,_,_,om9,om9,by go_num,rfl,C.out,T.out⟩
  ·have ac:decide ((k:Int)<(n:Int))=false:=decide_eq_false om9;have hk:k=n:=om9;subst hk;rw [List.take_of_length_le (by rw [HL.out];exact Nat.le_refl _)] at a;have o:(zgB L).length=k:=by rw [zhv];exact HL.out
   obtain⟨A1,c1,rfl,hv,hf⟩:=a.shape;rw [o] at hv⊢;have HV:=lh9 hv;have HF:=lh9 hf;have S:=lh9 hB;clear a hv hB o hf;go_wp2;go_ret;exact⟨A1,c1,rfl,HV.out,HF.out,S.out⟩
theorem zgf (n m:Nat)(f:Nat->Nat->Rat):(zbz n m f).length=n:=by simp [zbz]
theorem zhE {n m:Nat}(f:Nat->Nat->Rat){r:Nat}(h:r<n):(zbz n m f)[r]?=some ((List.range m).map (f r)):=by
 unfold zbz;rw [List.getElem?_map,List.getElem?_range h];rfl
theorem zjH (m:Nat)(f:Nat->Rat):((List.range m).map f).length=m:=si9
theorem zjG {m:Nat}(f:Nat->Rat){c:Nat}(h:c<m):((List.range m).map f)[c]?=some (f c):=by
 rw [List.getElem?_map,List.getElem?_range h];rfl
theorem zhs {w:World}{g n m:Nat}{M:List (List Rat)}(h:zaT (zaM zaf) w 61 g n M)(hd:zaY M n m)(hn:n<=64)(hm:m<=64):zbL w (some ⟨g,0,none⟩) n n m M:=⟨hd,Nat.le_refl _,om9,hn,hm,h.rows,λad e=>by obtain⟨cs,hk,_⟩:=h.blk;injection e with e;subst e;exact⟨cs,hk⟩⟩
def zdX (f:Nat->Nat->Rat)(F:FuncId)(cap:Array Value)(n m:Nat)(w:World):Prop:=
 (∀ (args : Array Value) (w' : World),Sem.run prog (callFunc F args) w' = .ok (.enter F args) w') ∧
   ∀r c,r<n->c<m->∀w',Below w.heap.size w w'->Calls prog F (#[.int .i64 (r:Int),.int .i64 (c:Int)]++cap) w' (zaE w' (f r c))
theorem zna {K:Nat}(f:Nat->Nat->Rat)(F:FuncId)(cap:Array Value)(n m:Nat)(w:World)(hT:zai w)(hG:zdX f F cap n m w)(hS:∀r c,r<n->c<m->SzQ K (f r c))(hn:n<=64:=by omega)(hm:m<=64:=by omega)(hK:K+2<=67108864:=by omega):
  Calls prog 94 #[.int .i64 (n:Int),.int .i64 (m:Int),.func (.func F) #[] cap] w (zcr w n m (zbz n m f)):=by
 obtain⟨hEn,hF⟩:=hG;have HF:=lh9 hF;have HT:=up9 w (λw' hb=>hT.on hb);have N:=lh9 (zgf n m f);have L:Hid (∀r,r<n->(zbz n m f)[r]?=some ((List.range m).map (f r))):=λr hr=>zhE f hr;have aa:Hid (∀r c,c<m->((List.range m).map (f r))[c]?=some (f r c)):=λr c hc=>zjG (f r) hc;have af:Hid (∀r,((List.range m).map (f r)).length=m):=λr=>zjH m (f r);have aj:Hid (∀r,r<n->zat K ((List.range m).map (f r))):=λr hr x hx=>by
  obtain⟨c,hc,rfl⟩:=List.mem_map.1 hx;exact hS r c hr (List.mem_range.1 hc)
 have X:=lh9 (zbW n m f);obtain⟨B,I⟩:∃B:Nat->List Rat,(λr=>(List.range m).map (f r))=B:=⟨_,rfl⟩;have A:∀r,(List.range m).map (f r)=B r:=λr=>by rw [<-I]
 simp only [A] at L aa af aj;obtain⟨M,hM⟩:∃M,zbz n m f=M:=⟨_,rfl⟩;rw [hM] at N L X⊢;obtain⟨Z,hZ⟩:=zcQ m om9;have HMK:∀W,(Instr.makeSlice 61 (.int .i64 (m:Int)) (.int .i64 (m:Int))).run prog W=.ok (.slice (some ⟨W.heap.size,0,none⟩) m m) (W.alloc (.cells Z 41)):=λW=>(hZ W).1;have ah:=lh9 (λW=>(hZ W).2);obtain⟨Y,hY⟩:=zhT n om9;have ag:∀W,(Instr.makeSlice 26 (.int .i64 (n:Int)) (.int .i64 (n:Int))).run prog W=.ok (.slice (some ⟨W.heap.size,0,none⟩) n n) (W.alloc (.cells Y 61)):=λW=>(hY W).1;have y:=lh9 (λW=>(hY W).2);obtain⟨b1,b2,b3,b4,b5⟩:=zbT w 28 61 28 #[.slice none 0 0,.int .i64 0] Y #[.slice (some ⟨w.heap.size+1,0,none⟩) n n,.int .i64 (m:Int)];clear hT hF hS I A hM hZ hY;unfold zcr;have i0:(0:Int)<=(n:Int):=om9;have i1:(0:Int)<=(m:Int):=om9;go_enter func94,ntmps94;go_wp2_with fail;have a:zaT (zaM zaf) (((w.alloc (.cells #[.slice none 0 0,.int .i64 0] 28)).alloc (.cells Y 61)).alloc (.cells #[.slice (some ⟨w.heap.size+1,0,none⟩) n n,.int .i64 (m:Int)] 28)) 61 (w.heap.size+1) n (zbU [] M n 0):=by
  have h1:=y.out (w.alloc (.cells #[.slice none 0 0,.int .i64 0] 28));have e1:(w.alloc (.cells #[.slice none 0 0,.int .i64 0] 28)).heap.size=w.heap.size+1:=si9;rw [e1] at h1;rw [zbk];exact h1.below (zaA zak) (zax _ _ _).1
 clear b3 y ag;obtain⟨g0,O⟩:∃g,w.heap.size=g:=⟨_,rfl⟩;have az:w.heap.size<=g0:=om9;rw [O] at a b1 b2 b4 b5⊢;generalize ((w.alloc (.cells #[.slice none 0 0,.int .i64 0] 28)).alloc (.cells Y 61)).alloc (.cells #[.slice (some ⟨g0+1,0,none⟩) n n,.int .i64 (m:Int)] 28)=W1 at*;rw [<-O] at b1;clear O
 go_loopg [18] (n+1) (λg ix wr=>∃(k:Nat),k<=n/\n<g+k/\ix=.int .i64 k/\zaT (zaM zaf) wr 61 (g0+1) n (zbU [] M n k)/\Below w.heap.size w wr/\Blk wr g0 28 #[.slice none 0 0,.int .i64 0]/\Blk wr (g0+1+1) 28 #[.slice (some ⟨g0+1,0,none⟩) n n,.int .i64 (m:Int)])
 case atStart=>exact⟨0,Nat.zero_le _,om9,rfl,a,b1,b2,b4⟩
 case round=>
  clear a b1 b2 b4 b5;obtain⟨k,hkn,hg,rfl,a,hB,t,C⟩:=hrel;obtain⟨wo,a0⟩:∃wo,wo=wr:=⟨_,rfl⟩;subst a0;by_cases hlt:k<n
  ·have ax:decide ((k:Int)<(n:Int))=true:=decide_eq_true om9;have i2:(0:Int)<=(k:Int):=om9;have i3:(k:Int)<(n:Int):=om9;have hg1:=a.lt;have ai:=lh9 a;have HB:=lh9 hB;have ar:=lh9 t;have au:=lh9 C;have G:=lh9 (aa.out k);have o:=lh9 (af.out k);have H:=lh9 (aj.out k hlt);have E:=lh9 (L.out k hlt);obtain⟨R,hR⟩:∃R,B k=R:=⟨_,rfl⟩;rw [hR] at G o H E;clear a hB t C hR;go_wp2_with fail;have h:=ah.out wo;have b:Below wo.heap.size wo (wo.alloc (.cells Z 41)):=(Below.refl _ wo).alloc (Nat.le_refl _) _;rw [<-zbk 0 R m] at h;obtain⟨gr,ak⟩:∃g,wo.heap.size=g:=⟨_,rfl⟩;have a1:wo.heap.size<=gr:=om9;rw [ak] at h⊢;generalize wo.alloc (.cells Z 41)=W2 at*;clear ak
   go_loopg [25] (m+1) (λg jx wr=>∃(j:Nat),j<=m/\m<g+j/\jx=.int .i64 j/\zaI wr gr m (zbU 0 R m j)/\Below wo.heap.size wo wr)
   case atStart=>exact⟨0,Nat.zero_le _,om9,rfl,h,b⟩
   case round=>
    clear h b;obtain⟨j,hjm,hg2,rfl,h,b⟩:=hrel;by_cases hjl:j<m
    ·have ay:decide ((j:Int)<(m:Int))=true:=decide_eq_true om9;have i4:(0:Int)<=(j:Int):=om9;have i5:(j:Int)<(m:Int):=om9;have ab:=lh9 h;have J:=lh9 b;have aq:=lh9 (G.out j hjl);clear h b;go_wp2_with fail;refine(HF.out k j hlt hjl _ (zaa HB.out J.out)).mono ?_;rintro e w3 ⟨b3,A3,n3,c3,E3,k3,f3,rfl,am,hb⟩;have P:=ab.out.keep hb;have Q:=zbm.set_ zak P hjl am;rw [zbv 0 R m j o.out hjl _ aq.out] at Q;obtain⟨q0,q1,q2,U,V,a2,a3,sc2,sf2⟩:=P.ready hjl (.bool b3) (.slice A3 n3 c3);have av:=lh9 Q;have ao:=lh9 (zcA (j*3) (j*3+1) (j*3+2) (.bool b3) (.slice A3 n3 c3) (.slice E3 k3 f3) a1 (zaa J.out hb));clear P Q hb am ab J;go_wp2;go_roundg (m - j)
     case measure=>omega
     case rel=>exact⟨j+1,om9,om9,by go_num,av.out,ao.out⟩
    ·have hj:j=m:=om9;subst hj;have ay:decide ((j:Int)<(j:Int))=false:=si9;have HV:=lh9 (zaR (zbu 0 R j o.out▸h));have an:=zab b au.out;have d:=lh9 (ai.out.below (zaA zak) b);have u:=lh9 (zaa HB.out b);have i:=lh9 (zab b ar.out);have l:=lh9 an;obtain⟨p0,p1⟩:=an.c2;have s:=(Below.refl wr.heap.size wr).drew;clear h b;go_wp2_with fail;refine rg (csc p0 csn) (λhHeld=>?_);clear p0 p1;have HV:=lh9 (HV.out.keep s);have d:=lh9 (d.out.below (zaA zak) s);have u:=lh9 (zaa u.out s);have i:=lh9 (zab s i.out);have l:=lh9 (zab s l.out);clear s;generalize wr.drew=D at*;refine tk 0 ?_;refine tk 1 ?_;refine tk 2 ?_;refine tk 3 ?_;refine rc 4 (λKK z=>?_);go_simp;(with_reducible refine(znA (HT.out _ u.out) HV.out H.out).mono ?_);rintro e w5 ⟨g5,rfl,hg5,al,hb⟩;refine z.out _ _ (Cs.below hHeld hb) (λhHeld=>?_);clear z KK;have S:=d.out.below (zaA zak) hb;have T:=zaT.set_ (zaA zak) S hlt (zaR al) o.out;rw [zbv [] M n k N.out hlt _ E.out] at T;obtain⟨q0,U,V⟩:=S.ready hlt;have hne:g0+1+1≠g0+1:=om9;have aw:=lh9 T;have ap:=lh9 (zae (p:=⟨g0+1,k,none⟩) (.slice (some ⟨g5,0,none⟩) j j) (show w.heap.size<=g0+1 by omega) (zaa u.out hb));have ac:=lh9 (Blk.far (p:=⟨g0+1,k,none⟩) (zab hb i.out) (by show g0≠g0+1;omega) (.slice (some ⟨g5,0,none⟩) j j));have ae:=lh9 (Blk.far (p:=⟨g0+1,k,none⟩) (zab hb l.out) (by show g0+1+1≠g0+1;omega) (.slice (some ⟨g5,0,none⟩) j j));clear hb S T al d u i l HV;refine tk 5 ?_;refine rc 6 (λKK z=>?_);go_simp;refine z.out _ _ ?_ (λhHeld=>?_)
     ·refine Cs.far hHeld ((zbp.refl (g0+1) _).set_ k _) ⟨?_,trivial⟩;show g0+1+1≠g0+1;omega
     clear z KK;refine rdn ?_;clear hHeld U V;go_wp2;go_roundg (n - k)
     case measure=>omega
     case rel=>exact⟨k+1,om9,om9,by go_num,aw.out,ap.out,ac.out,ae.out⟩
  ·have hk:k=n:=om9;subst hk;have ax:decide ((k:Int)<(k:Int))=false:=si9;have HM:=lh9 (zhs (zbu [] M k N.out▸a) X.out hn hm);obtain⟨p0,p1⟩:=C.c2;obtain⟨U,V,a2,a3⟩:=st2 t (.slice (some ⟨g0+1,0,none⟩) k k);obtain⟨r0,r1⟩:=(sn2 t (.slice (some ⟨g0+1,0,none⟩) k k) (.int .i64 (m:Int))).c2;have HG:=lh9 (gm2 HM.out (λad e=>by injection e with e;subst e;show g0<g0+1;omega) t hB az);unfold zcr at HG;clear a hB t C;go_wp2;refine bodyPost_ret (v:=.agg #[.slice (some ⟨g0+1,0,none⟩) k k,.int .i64 (m:Int)]) (by simp [results,results94,go_sem,r0,r1]) rfl ?_;exact HG.out
