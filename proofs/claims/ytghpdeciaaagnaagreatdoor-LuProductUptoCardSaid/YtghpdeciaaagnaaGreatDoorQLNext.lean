/- What this claim leans on. -/
import Derived.Test.YtghpdeciaaagnaaGreatDoorQMLook
import Derived.Test.YtghpdeciaaagnaaGreatDoorQLXchg
namespace Go.Proofs.YtghpdeciaaagnaaGreatDoor
open Go Go.RowKit Go.Proofs.Tryz
set_option maxHeartbeats 16000000
set_option maxRecDepth 100000
set_option linter.unusedVariables false
set_option linter.unusedSimpArgs false
theorem zjo {c n:Nat}{e:LSt}(hn:e.S.length=n):idxZ c (e.S.drop c)=if zbt c e<n - c then((zbt c e:Nat):Int) else -1:=by
 unfold idxZ zbt;rw [List.length_drop,hn]
theorem LOk.msz {n c K:Nat}{M:List (List Rat)}{e:LSt}(h:LOk n c K M e):zaO (67+65*K) e.S:=λL hL x hx=>by
 obtain⟨i,hi,rfl⟩:=List.mem_iff_getElem.1 hL;obtain⟨j,hj,rfl⟩:=List.mem_iff_getElem.1 hx;have a:i<n:=by rw [<-h.dims.rows];exact hi
 have hr:=h.dims.row a;have e1:e.S.getD i []=e.S[i]:=by rw [List.getD_eq_getElem?_getD,List.getElem?_eq_getElem hi];rfl
 rw [e1] at hr;have:=h.li i a j om9;unfold atM at this;rw [e1,List.getD_eq_getElem?_getD,List.getElem?_eq_getElem hj] at this;exact this.szq om9
theorem LuS.c0 {w:World}{g m:Nat}{e:LSt}{A:oA9}{n cA:Nat}{B:oA9}{k cB:Nat}{D:oA9}{l cD:Nat}{x0 x1 x2:Value}{qs:List Nat}(h:LuS w g m e A n cA B k cB D l cD x0 x1 x2 qs):w.cell? ⟨g,0,none⟩=some (.slice A n cA):=h.blk.cell 0
theorem LuS.lines {w:World}{g m:Nat}{e:LSt}{A:oA9}{n cA:Nat}{B:oA9}{k cB:Nat}{D:oA9}{l cD:Nat}{x0 x1 x2:Value}{qs:List Nat}(h:LuS w g m e A n cA B k cB D l cD x0 x1 x2 qs)(hm:m<=9223372036854775807):n<=cA/\cA<=9223372036854775807/\zaC (zaM zaf) w A n e.S:=by
 obtain⟨A',c',hA,h1,h2,h3,_⟩:=h.rows.shape h.hn hm;injection hA with a1 a2 a3;subst a1 a3;exact⟨h1,h2,h3⟩
theorem zqD {n c K:Nat}{M:List (List Rat)}{e:LSt}(h:LOk n c K M e)(hM:zaY M n n)(hn:n<=64)(hW:zbn K M)(hc:c<n)(d:atM e.S c c≠0)(i:Nat):zaO (67+65*K) (zbH c e.S i):=λL hL x hx=>by
 unfold zbH at hL;obtain⟨j,hj,rfl⟩:=List.mem_mapIdx.1 hL;have a:j<n:=by rw [<-h.dims.rows];exact hj
 have e1:e.S.getD j []=e.S[j]:=by rw [List.getD_eq_getElem?_getD,List.getElem?_eq_getElem hj];rfl
 split at hx
 ·next hcj=>
  have hlen:(zbG c (prF (atM e.S) c) e.S[j] (e.S.getD c [])).length=n:=zez (by rw [<-e1];exact h.dims.row a) (h.dims.row hc) hc;obtain⟨k,hk,rfl⟩:=List.mem_iff_getElem.1 hx;have b:k<n:=om9;have hs:LSz n n (c+1) (aF M e) (atM (zcD c e.S)):=h.sz.step hc hc d (λi h1 h2 j h3 h4=>by rw [zhn h.dims hc h2 h4];unfold zfR;rw [if_pos ⟨h1,h3⟩]) (by rw [zhn h.dims hc hc hc];unfold zfR;rw [if_neg om9]);have e3:(zbG c (prF (atM e.S) c) e.S[j] (e.S.getD c []))[k]=atM (zcD c e.S) j k:=by
   have h9:(zcD c e.S).getD j []=zbG c (prF (atM e.S) c) e.S[j] (e.S.getD c []):=by rw [zhS (by rw [h.dims.rows];exact a),if_pos hcj.1,e1]
   have h8:∀(L:List Rat) (q:k<L.length),L[k]=L.getD k 0:=λL q=>by rw [List.getD_eq_getElem?_getD,List.getElem?_eq_getElem q];rfl
   refine(h8 _ hk).trans ?_;show _=((zcD c e.S).getD j []).getD k 0;rw [h9]
  rw [e3];by_cases hck:c<k
  ·exact(hs.at_ hn (h.ali hM hW) hcj.1 a hck b).szq om9
  ·rw [zhn h.dims hc a b];unfold zfR;rw [if_neg om9];exact(h.li j a k b).szq om9
 ·exact h.msz _ (List.getElem_mem hj) x hx
theorem zat.drop_ {K:Nat}{xs:List Rat}(h:zat K xs)(k:Nat):zat K (xs.drop k):=λx hx=>h x (List.mem_of_mem_drop hx)
section
variable {w:World}{g n c K:Nat}{e:LSt}{M:List (List Rat)}{cA cB cD gA gB gD:Nat}{x0 x1 x2:Value}{qs:List Nat}
theorem zox (hT:zai w)(h:LuS w g n e (some ⟨gA,0,none⟩) n cA (some ⟨gB,0,none⟩) n cB (some ⟨gD,0,none⟩) n cD x0 x1 x2 qs)(i:LOk n c K M e)(hc:c<n)(hn:n<=64)(hb:¬zbt c e<n - c)(hK:67+65*K<=67108864):
  Calls prog 110 #[.pointer (some ⟨g,0,none⟩),.int .i64 (c:Int)] w (λeo w'=>eo=.returned (.bool false)/\Below g w w'):=by
 obtain⟨hnc,hcm,hL⟩:=h.lines om9;have hz:=i.msz;have b:=zjo (c:=c) h.hn;rw [if_neg hb] at b;obtain⟨a,d,-⟩:=zax w 3 #[.int .i64 (c:Int)];have HI:Hid (∀W,Below (w.alloc (.cells #[.int .i64 (c:Int)] 3)).heap.size (w.alloc (.cells #[.int .i64 (c:Int)] 3)) W->Calls prog 167 #[.slice (some ⟨gA,c,none⟩) (n - c) (cA - c),.func (.func 168) #[] #[.pointer (some ⟨w.heap.size,0,none⟩)]] W (λeo w'=>eo=.returned (.int .i64 (-1))/\Below W.heap.size W w')):=λW hW=>by
  have hD:=(hL.below (zaA zak) (zaa a hW)).drop_ (Nat.le_of_lt hc);rw [show Option.map (λx:Addr=>x.add c) (some ⟨gA,0,none⟩)=some ⟨gA,c,none⟩ from congrArg some (zar gA c)] at hD;have hI:=zil (q:=cA - c) (hT.on (zaa a hW)) hD (zab hW d) hc (λL hL=>i.dims.cols L (List.mem_of_mem_drop hL)) (λL hL=>hz L (List.mem_of_mem_drop hL)) om9 hK;rw [b] at hI;exact hI
 have hmf:=zoD;have HG:=lh9 h.lt;have HS:=lh9 (h.below a);have k:=lh9 d;have HB:=lh9 a;have i1:(0:Int)<=(c:Int):=om9;have i2:(c:Int)<=(n:Int):=om9;have i3:(n:Int)<=(cA:Int):=om9;have i4:(c:Int)<=(cA:Int):=om9;have hck:¬(cA=c):=om9;clear hT h i hz b hL a d hb;go_enter func110,ntmps110;go_upto_region 1 with fail;have p0:=HS.out.c0;have q0:=k.out.c1;generalize w.alloc (.cells #[.int .i64 (c:Int)] 3)=W1 at*;have f:=(Below.refl W1.heap.size W1).drew;refine rg (csc p0 (csc q0 csn)) (λhHeld=>?_);have HI:=lh9 (HI.out _ f);have HB:=lh9 (zaa HB.out f);clear p0 q0 f;generalize W1.drew=D1 at*;refine tk 0 ?_;refine tk 1 ?_;refine tk 2 ?_;refine tk 3 ?_;refine tk 4 ?_;refine tk 5 ?_;refine tk 6 ?_;refine rc 7 (λKK j=>?_);go_simp;(with_reducible refine HI.out.mono ?_);rintro eo w1 ⟨rfl,hb⟩;refine j.out _ _ (Cs.below hHeld hb) (λhHeld=>?_);have HB:=lh9 (zaa HB.out hb);clear j KK hb HI;refine tk 8 ?_;refine rdn ?_;clear hHeld;go_wp2;go_ret;exact⟨rfl,HB.out.mono (Nat.le_of_lt HG.out)⟩
theorem zmW (hT:zai w)(h:LuS w g n e (some ⟨gA,0,none⟩) n cA (some ⟨gB,0,none⟩) n cB (some ⟨gD,0,none⟩) n cD x0 x1 x2 qs)(C:LOk n c K M e)(hM:zaY M n n)(hW:zbn K M)(ba:0<g)(hc:c<n)(hn:n<=64)(hb:zbt c e<n - c)(hK:67+65*K<=8388608):
  Calls prog 110 #[.pointer (some ⟨g,0,none⟩),.int .i64 (c:Int)] w (λeo w'=>eo=.returned (.bool true)/\(∃y0 y1 y2 am,LuS w' g n (zkF c e) (some ⟨gA,0,none⟩) n cA (some ⟨gB,0,none⟩) n cB (some ⟨gD,0,none⟩) n cD y0 y1 y2 am)/\Below g w w'):=by
 obtain⟨hnc,hcm,hL⟩:=h.lines om9;have hz:=C.msz;have B:=zjo (c:=c) h.hn;rw [if_pos hb] at B;obtain⟨v,Z,-⟩:=zax w 3 #[.int .i64 (c:Int)];have HI:Hid (∀W,Below (w.alloc (.cells #[.int .i64 (c:Int)] 3)).heap.size (w.alloc (.cells #[.int .i64 (c:Int)] 3)) W->Calls prog 167 #[.slice (some ⟨gA,c,none⟩) (n - c) (cA - c),.func (.func 168) #[] #[.pointer (some ⟨w.heap.size,0,none⟩)]] W (λeo w'=>eo=.returned (.int .i64 ((zbt c e:Nat):Int))/\Below W.heap.size W w')):=λW hW=>by
  have hD:=(hL.below (zaA zak) (zaa v hW)).drop_ (Nat.le_of_lt hc);rw [show Option.map (λx:Addr=>x.add c) (some ⟨gA,0,none⟩)=some ⟨gA,c,none⟩ from congrArg some (zar gA c)] at hD;have hI:=zil (q:=cA - c) (hT.on (zaa v hW)) hD (zab hW Z) hc (λL hL=>C.dims.cols L (List.mem_of_mem_drop hL)) (λL hL=>hz L (List.mem_of_mem_drop hL)) om9 om9;rw [B] at hI;exact hI
 have bu:=zoD;have HG:=lh9 h.lt;have HS:=lh9 (h.below v);have a:=lh9 Z;have HB:=lh9 v;have i1:(0:Int)<=(c:Int):=om9;have i2:(c:Int)<=(n:Int):=om9;have i3:(n:Int)<=(cA:Int):=om9;have i4:(c:Int)<=(cA:Int):=om9;have hck:¬(cA=c):=om9;obtain⟨s,D⟩:=C.pick hb;obtain⟨b,aa⟩:∃b,zbt c e=b:=⟨_,rfl⟩;have af:zfV c e=if b=0 then e else⟨exL [] c (c+b) e.S,exL 0 c (c+b) e.T,exL 0 c (c+b) e.P,-e.rd⟩:=by unfold zfV;rw [aa]
 rw [aa] at HI hb;have V:Hid (zkF c e={zfV c e with S:=zcD c (zfV c e).S}):=rfl;obtain⟨pk,U⟩:∃pk,zfV c e=pk:=⟨_,rfl⟩;rw [U] at s D af V;have X:=lh9 af;have au:=lh9 s.msz;have ao:=lh9 s.dims;have m:Hid (pk.S.length=n):=s.dims.rows;have aq:=lh9 (s.inv.pr (Nat.le_refl c));have bm:Hid (∀i,zaO (67+65*K) (zbH c pk.S i)):=λi=>by
  have hnx:=s;intro L hL x hx;exact zqD s hM hn hW hc D i L hL x hx
 have aw:Hid (SzQ (1+64*K) e.rd):=by
  have hr:SzQ (1+64*K) (zbJ M):=by
   have:=zgs hW M.length (Nat.le_refl _);rw [List.take_length] at this;exact(this.up (Nat.add_le_add_left (Nat.mul_le_mul_right _ (by rw [hM.rows];exact hn)) _)).szq om9
  rcases C.rd with e1|e1<;>rw [e1]
  ·exact hr
  ·exact hr.neg
 rw [V.out];have HT:=lh9 (λw' (hb:Below g w w')=>zpT hT ba hb);have ac:gD≠w.heap.size/\gA≠w.heap.size/\gB≠w.heap.size:=by
  obtain⟨_,cs,h1,_⟩:=h.rows.at_ (q:=gA) rfl;obtain⟨_,ds,h2,_⟩:=h.atB (q:=gB) rfl;obtain⟨_,es,h3,_⟩:=h.atD (q:=gD) rfl;have:=h1.lt;have:=h2.lt;have:=h3.lt;omega
 obtain⟨hgA,hgB,hgD⟩:=h.apart;clear hT h C hz B hL v Z s D af U aa V;go_enter func110,ntmps110;go_upto_region 1 with fail;have p0:=HS.out.c0;have q0:=a.out.c1;generalize w.alloc (.cells #[.int .i64 (c:Int)] 3)=W1 at*;have f:=(Below.refl W1.heap.size W1).drew;refine rg (csc p0 (csc q0 csn)) (λhHeld=>?_);have HI:=lh9 (HI.out _ f);have HS:=lh9 (HS.out.below f);have a:=lh9 (zab f a.out);have HB:=lh9 (zaa HB.out f);clear p0 q0 f;generalize W1.drew=D1 at*;refine tk 0 ?_;refine tk 1 ?_;refine tk 2 ?_;refine tk 3 ?_;refine tk 4 ?_;refine tk 5 ?_;refine tk 6 ?_;refine rc 7 (λKK j=>?_);go_simp;(with_reducible refine HI.out.mono ?_);rintro eo w1 ⟨rfl,hb⟩;refine j.out _ _ (Cs.below hHeld hb) (λhHeld=>?_);have HS:=lh9 (HS.out.below hb);have a:=lh9 (zab hb a.out);have HB:=lh9 (zaa HB.out hb);clear j KK hb HI;refine tk 8 ?_;refine rdn ?_;clear hHeld;have HB:=lh9 (HB.out.mono (Nat.le_of_lt HG.out));have d1:decide ((b:Int)<0)=false:=decide_eq_false om9;go_upto_if 19 with fail
 go_cut [20,21,22,23,24,25] (λs20 s21 s22 s23 s24 s25 wx=>(∃y0 y1 y2 am,LuS wx g n pk (some ⟨gA,0,none⟩) n cA (some ⟨gB,0,none⟩) n cB (some ⟨gD,0,none⟩) n cD y0 y1 y2 am)/\Blk wx w.heap.size 3 #[.int .i64 (c:Int)]/\Below g w wx)
 case first=>
  have q0:=a.out.c1;by_cases hb0:b=0
  ·have d2:decide ((0:Int)<(b:Int))=false:=decide_eq_false om9;have d3:decide ((b:Int)>0)=false:=decide_eq_false om9;have hS:pk=e:=by rw [X.out,if_pos hb0]
   go_wp2;go_meet;exact⟨⟨_,_,_,_,by rw [hS];exact HS.out⟩,a.out,HB.out⟩
  ·have d2:decide ((0:Int)<(b:Int))=true:=decide_eq_true om9;have d3:decide ((b:Int)>0)=true:=decide_eq_true om9;have hS:pk=⟨exL [] c (c+b) e.S,exL 0 c (c+b) e.T,exL 0 c (c+b) e.P,-e.rd⟩:=by rw [X.out,if_neg hb0]
   have ap:=lh9 hS;clear hS;obtain⟨cb,a5⟩:∃q,c+b=q:=⟨_,rfl⟩;have j1:(c:Int)+(b:Int)=((cb:Nat):Int):=om9;have a6:cb<n:=om9;have a8:c≠cb:=om9;rw [a5] at ap;clear a5;go_wp2_with fail;clear q0;(with_reducible refine(zmT (L:=1+64*K) (HT.out _ HB.out) HS.out ba hc a6 a8 om9 aw.out om9).mono ?_);rintro eo w2 ⟨rfl,⟨y0,y1,y2,hs⟩,az,ho⟩;have bn:Hid (LuS w2 g n pk (some ⟨gA,0,none⟩) n cA (some ⟨gB,0,none⟩) n cB (some ⟨gD,0,none⟩) n cD y0 y1 y2 (exL 0 c cb qs)):=by show LuS _ _ _ _ _ _ _ _ _ _ _ _ _ _ _ _ _;rw [ap.out];exact hs
   have bj:=lh9 (ho _ _ _ (Ne.symm (Nat.ne_of_lt HG.out)) (Ne.symm ac.2.1) (Ne.symm ac.2.2) (Ne.symm ac.1) a.out);have bg:=lh9 (HB.out.trans az);clear hs az ho HS HB a;go_wp2;go_meet;exact⟨⟨_,_,_,_,bn.out⟩,bj.out,bg.out⟩
 case rest=>
  obtain⟨⟨y0,y1,y2,qp,hs⟩,hk,hB⟩:=hcut;obtain⟨wk,bw⟩:∃x,x=wc:=⟨_,rfl⟩;subst bw;have HS:=lh9 hs;have a:=lh9 hk;have HB:=lh9 hB;clear hs hk hB X aw bu d1;obtain⟨c1,a3⟩:∃c1,c+1=c1:=⟨_,rfl⟩;have j1:IntKind.i64.wrap ((c:Int)+1)=(c1:Int):=by rw [IntWalk.i64_in _ om9];omega
  have j1b:IntKind.i64.wrap (c1:Int)=(c1:Int):=by rw [IntWalk.i64_in _ om9]
  have j2:(0:Int)<=(c1:Int):=om9;have j3:(c1:Int)<=(n:Int):=om9;have j4:(c1:Int)<=(cA:Int):=om9;have u:=lh9 a3;have R:c1<=n:=om9;have hcc:c<c1:=om9;clear a3;go_upto_region 6 with fail;have p0:=HS.out.c0;have q0:=a.out.c1;have f:=(Below.refl wk.heap.size wk).drew;refine rg (csc p0 (csc q0 csn)) (λhHeld=>?_);have r:=HS.out.lt;have HS:=lh9 (HS.out.below f);have a:=lh9 (zab f a.out);have HB:=lh9 (HB.out.trans (f.mono (Nat.le_of_lt r)));clear p0 q0 f r;generalize wk.drew=D6 at*;by_cases hck2:cA=c1
  ·have hn1:n - c1=0:=om9;subst hck2;have l:=zjr (c:=c) (i:=0) m.out (by have:=u.out;omega);rw [zim] at l;have HF:Hid (LuS D6 g n {pk with S:=zcD c pk.S} (some ⟨gA,0,none⟩) n cA (some ⟨gB,0,none⟩) n cB (some ⟨gD,0,none⟩) n cD y0 y1 y2 qp):=by show LuS _ _ _ _ _ _ _ _ _ _ _ _ _ _ _ _ _;rw [<-l];exact HS.out
   clear l;refine tk 0 ?_;refine tk 1 ?_;refine tk 2 ?_;refine tk 3 ?_;refine tk 4 ?_;refine tk 5 ?_;refine tk 6 ?_;refine tk 7 ?_;refine tk 8 ?_;refine rdn ?_;clear hHeld;have z:=HF.out;have y:=HB.out;clear HS a HF HB;go_wp2_with fail
   go_loopg [34] (n+1) (λgg ix wr=>ix=.int .i64 0/\LuS wr g n {pk with S:=zcD c pk.S} (some ⟨gA,0,none⟩) n cA (some ⟨gB,0,none⟩) n cB (some ⟨gD,0,none⟩) n cD y0 y1 y2 qp/\Below g w wr)
   case atStart=>exact⟨rfl,z,y⟩
   case round=>
    clear z y;obtain⟨rfl,hS,hB⟩:=hrel;have HF:=lh9 hS;have HB:=lh9 hB;clear hS hB;go_wp2;go_ret;exact⟨rfl,⟨_,_,_,_,HF.out⟩,HB.out⟩
  ·have z:LuS D6 g n {pk with S:=zbH c pk.S 0} (some ⟨gA,0,none⟩) n cA (some ⟨gB,0,none⟩) n cB (some ⟨gD,0,none⟩) n cD y0 y1 y2 qp:=by rw [zim];exact HS.out
   have ax:=a.out;have y:=HB.out;clear HS a HB;refine tk 0 ?_;refine tk 1 ?_;refine tk 2 ?_;refine tk 3 ?_;refine tk 4 ?_;refine tk 5 ?_;refine tk 6 ?_;refine tk 7 ?_;refine tk 8 ?_;refine rdn ?_;clear hHeld;go_wp2_with fail
   go_loopg [34] (n+1) (λgg ix wr=>∃(i:Nat),i<=n - c1/\n<gg+i/\ix=.int .i64 i/\LuS wr g n {pk with S:=zbH c pk.S i} (some ⟨gA,0,none⟩) n cA (some ⟨gB,0,none⟩) n cB (some ⟨gD,0,none⟩) n cD y0 y1 y2 qp/\Below g w wr/\Blk wr w.heap.size 3 #[.int .i64 (c:Int)])
   case atStart=>exact⟨0,Nat.zero_le _,om9,rfl,z,y,ax⟩
   case round=>
    clear z y ax;obtain⟨i,hin,hg,rfl,hS,hB,j⟩:=hrel;by_cases hlt:i<n - c1
    ·have d4:decide ((i:Int)<((n - c1:Nat):Int))=true:=decide_eq_true om9;have d5:(i:Int)<((n - c1:Nat):Int):=om9;have i5:(0:Int)<=(i:Int):=om9;have hr:c1+i<n:=om9;have be:c+1+i<pk.S.length:=by rw [m.out];have:=u.out;omega
     have bf:c+1+i=c1+i:=by have:=u.out;omega
     obtain⟨u7,aj⟩:∃x,qp.getD (c1+i) 0=x:=⟨_,rfl⟩;obtain⟨uc,ak⟩:∃x,qp.getD c 0=x:=⟨_,rfl⟩;have bd:=hS.rowAt hr;have a4:=hS.rowAt hc;rw [aj] at bd;rw [ak] at a4;obtain⟨a0,-,G⟩:=bd;obtain⟨a1,-,N⟩:=a4;have E:(zbH c pk.S i).getD (c1+i) []=pk.S.getD (c1+i) []:=by rw [zjs (by rw [m.out];exact hr),if_neg (by have:=u.out;omega)]
     have F:(zbH c pk.S i).getD c []=pk.S.getD c []:=zgS (by rw [m.out];exact hc) (Nat.le_refl c);have G:zaI wr u7 n (pk.S.getD (c1+i) []):=by rw [<-E];exact G
     have N:zaI wr uc n (pk.S.getD c []):=by rw [<-F];exact N
     obtain⟨ae,b5,B5,m5,bs,E5,u5,v5,e9,-,q3,q4,q5,hx⟩:=(zaR G).get (Below.refl _ _) hc;injection e9 with e9;subst e9;rw [zar] at q3;have q3:wr.cell? ⟨u7,c*3,none⟩=some (.bool b5):=q3;have q4:wr.cell? ⟨u7,c*3+1,none⟩=some (.slice B5 m5 bs):=by rw [zar] at q4;exact q4
     have q5:wr.cell? ⟨u7,c*3+2,none⟩=some (.slice E5 u5 v5):=by rw [zar] at q5;exact q5
     have HX:=lh9 hx;have HS:=lh9 hS;have HB:=lh9 hB;have a:=lh9 j;have o:=lh9 G;have H:=lh9 N;have bp:=lh9 aj;have bq:=lh9 ak;have hcn1:¬(n=c1):=om9;have hcA1:¬(cA=c1):=om9;have ay:=zot (p:=prF (atM pk.S) c) (row:=pk.S.getD (c1+i) []) (by_:=pk.S.getD c []) u.out;have bl:=lh9 ay;have Y:=lh9 (zou be);rw [bf] at Y;have O:Hid (zat (67+65*K) (pk.S.getD (c1+i) [])):=au.out.row (by rw [m.out];exact hr);have av:Hid (zat (67+65*K) (pk.S.getD c [])):=au.out.row (by rw [m.out];exact hc);have br:Hid (SzQ (67+65*K) ((pk.S.getD (c1+i) []).getD c 0)):=O.out.at_ (by rw [(zaR o.out).len];exact hc);have ar:Hid (prF (atM (zbH c pk.S i)) c=prF (atM pk.S) c):=zqC m.out hc;have bi:Hid (atM (zbH c pk.S i) c c=(pk.S.getD c []).getD c 0):=zqB m.out hc;clear hx hS hB j G N E F aj ak ay bf be;go_upto_region 9 with fail;have p0:=HS.out.c0;have q0:=a.out.c1;have f:=(Below.refl wr.heap.size wr).drew;have r:=HS.out.lt;refine rg (csc p0 (csc q0 (csc a1 (csc q3 (csc q4 (csc q5 csn)))))) (λhHeld=>?_);have HS:=lh9 (HS.out.below f);have a:=lh9 (zab f a.out);have HB:=lh9 (HB.out.trans (f.mono (Nat.le_of_lt r)));have HX:=lh9 (HX.out.below f);have o:=lh9 (o.out.keep f);have H:=lh9 (H.out.keep f);clear p0 q0 a0 a1 q3 q4 q5 f r;generalize wr.drew=D9 at*;refine tk 0 ?_;refine tk 1 ?_;refine tk 2 ?_;refine tk 3 ?_;refine tk 4 ?_;refine tk 5 ?_;refine tk 6 ?_;refine tk 7 ?_;refine tk 8 ?_;refine tk 9 ?_;refine tk 10 ?_;refine tk 11 ?_;refine tk 12 ?_;refine tk 13 ?_;refine tk 14 ?_;refine tk 15 ?_;refine tk 16 ?_;refine tk 17 ?_;refine tk 18 ?_;refine tk 19 ?_;refine tk 20 ?_;refine tk 21 ?_;refine tk 22 ?_;refine tk 23 ?_;refine tk 24 ?_;refine tk 25 ?_;refine tk 26 ?_;refine rc 27 (λKK j=>?_);go_simp;obtain⟨-,-,hL⟩:=HS.out.lines om9;have ag:=zaH.rest (k:=c1) (zaR o.out) R;have ah:=zaH.rest (k:=c1) (zaR H.out) R;rw [zar] at ag ah;(with_reducible refine(zfn (L:=67+65*K) (HT.out _ HB.out) hL (zmM ao.out hc) hc hc (bm.out i) ag (O.out.drop_ c1) HX.out br.out ah (av.out.drop_ c1) (by rw [ar.out];exact aq.out) om9 om9 om9 hK).mono ?_);rintro eo w8 ⟨g8,rfl,hg8,ad,hb⟩;rw [ar.out,bi.out] at ad;refine j.out _ _ (Cs.below hHeld hb) (λhHeld=>?_);have r:=HS.out.lt;have HS:=lh9 (HS.out.below hb);have a:=lh9 (zab hb a.out);have HB:=lh9 (HB.out.trans (hb.mono (Nat.le_of_lt r)));have o:=lh9 (o.out.keep hb);have an:=lh9 ad;clear j KK hb ad hL ag ah r;refine rc 28 (λKK j=>?_);obtain⟨w9,a9,ai,al,I,Q⟩:=zaI.copied (c1:=c1) (d:=n - c1) o.out an.out om9 om9 61 61 3 underlying61;rw [<-bl.out] at al;have J:qp.getD (c1+i) 0=u7:=bp.out;have t:=HS.out.turnQ hr (by rw [J];exact ai) (by rw [J];exact al);have t:LuS w9 g n {pk with S:=(zbH c pk.S i).set (c1+i) (zbG c (prF (atM pk.S) c) (pk.S.getD (c1+i) []) (pk.S.getD c []))} (some ⟨gA,0,none⟩) n cA (some ⟨gB,0,none⟩) n cB (some ⟨gD,0,none⟩) n cD y0 y1 y2 qp:=t;rw [Y.out] at t;obtain⟨bb,_,bc,_⟩:=HS.out.atQ (q:=u7) (by rw [<-J];exact zdG (by rw [HS.out.rows.len,HS.out.hn];exact hr));have ab:=ai.2 _ _ _ (Ne.symm (zbo bc a.out de9)) a.out;have a2:=Q _ _ (Nat.le_of_lt bb) HB.out;have a7:c*3+2<c1*3:=om9;have A:=t.rowAt hc;rw [bq.out] at A;have p0:=t.c0;have q0:=ab.c1;dsimp only [Cs] at hHeld;obtain⟨-,-,-,t3,t4,t5,-⟩:=hHeld;have q3:=(I (c*3) om9).trans t3;have q4:=(I (c*3+1) om9).trans t4;have q5:=(I (c*3+2) a7).trans t5;refine zfz (.tmp 41) (.tmp 65) 61 61 rfl rfl rfl a9 ?_;refine j.out _ _ (csc p0 (csc q0 (csc A.1 (csc q3 (csc q4 (csc q5 csn)))))) (λhHeld=>?_);have bo:=lh9 t;have bk:=lh9 ab;have bh:=lh9 a2;clear j KK a9 Q ai al I J t bb bc ab a2 A p0 q0 q3 q4 q5 t3 t4 t5;refine rdn ?_;clear hHeld HS a HB HX o H an Y;go_wp2;go_roundg (n - i)
     case measure=>omega
     case rel=>exact⟨i+1,om9,om9,by go_num,bo.out,bh.out,bk.out⟩
    ·have bt:i=n - c1:=om9;have d4:decide ((i:Int)<((n - c1:Nat):Int))=false:=decide_eq_false om9;have d5:¬(i<n - c1):=om9;have l:=zjr (c:=c) (i:=i) m.out (by have:=u.out;omega);rw [l] at hS;have HF:=lh9 hS;have HB:=lh9 hB;clear hS hB j bt l;go_wp2;go_ret;exact⟨rfl,⟨_,_,_,_,HF.out⟩,HB.out⟩
end
