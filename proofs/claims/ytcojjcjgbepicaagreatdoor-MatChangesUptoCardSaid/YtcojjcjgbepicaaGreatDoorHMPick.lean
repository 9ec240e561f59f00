/- What this claim leans on. -/
import Derived.Test.YtcojjcjgbepicaaGreatDoorHRCol
namespace Go.Proofs.YtcojjcjgbepicaaGreatDoor
open Go Go.RowKit Go.Proofs.Tryz
set_option maxHeartbeats 16000000
set_option maxRecDepth 100000
set_option linter.unusedVariables false
set_option linter.unusedSimpArgs false
theorem zdj.below {w w':World}{A:oA9}{n:Nat}{zs:List Int}(h:zdj w A n zs)(hb:Below w.heap.size w w'):zdj w' A n zs:=⟨h.len,h.ints,λi hi=>by
 obtain⟨ad,e,hc⟩:=h.num i hi;exact⟨ad,e,zae hb hc⟩⟩
def zdS (n:Nat)(zs:List Int)(M:List (List Rat)):List (List Rat):=zbT n zs.length λa b=>atM M a (zs.getD b 0).toNat
theorem zlx {zs:List Int}{m b:Nat}(h:zee zs m=false)(hb:b<zs.length):∃k:Nat,zs.getD b 0=(k:Int)/\k<m:=by
 unfold zee at h;have:=List.any_eq_false.1 h (zs.getD b 0) (List.mem_of_getElem? (zcd hb));simp at this;exact zhb this
section
variable {A:oA9}{n c m K:Nat}{MM:List (List Rat)}{w:World}{Q:oA9}{q qc:Nat}{zs:List Int}
theorem zmV (hz:zdj w Q q zs)(hq:q<=1048576)(h:zfg (n:Int) (q:Int)=false\/zee zs m=true):Calls prog 60 #[.agg #[.slice A n c,.int .i64 (m:Int)],.slice Q q qc] w (zce w):=by
 obtain⟨bx,p,r,s,bz⟩:=zbs w 32 28 32 #[.slice A n c,.int .i64 (m:Int)] #[.slice Q q qc] #[.slice none 0 0,.int .i64 0];have b:=lh9 p;have d:=lh9 r;have a:=lh9 s;have HB:=lh9 bx;have hmf:=zls;have HR:=λW=>lh9 (zbW A n c (m:Int) W);by_cases hy:zfg (n:Int) (q:Int)=true
 ·have hs:zee zs m=true:=by
   rcases h with h|h
   ·rw [hy] at h;cases h
   ·exact h
  have o:=λW=>lh9 (zfD hy W);have t:Hid (∀W,Below w.heap.size w W->Blk W w.heap.size 32 #[.slice A n c,.int .i64 (m:Int)]->Calls prog 129 #[.slice Q q qc,.func (.func 128) #[] #[.pointer (some ⟨w.heap.size,0,none⟩)]] W (λe w'=>e=.returned (.bool true)/\Below W.heap.size W w')):=λW hb hk=>by
   have:=zeF (q:=qc) (hz.below hb) hk hq;rw [hs] at this;exact this
  clear bx bz p r s h hy hs hz;obtain⟨j,k⟩:=b.out.c2;have l:=d.out.c1;go_enter func60,ntmps60;go_wp2_with fail;generalize ((w.alloc (.cells #[.slice A n c,.int .i64 (m:Int)] 32)).alloc (.cells #[.slice Q q qc] 28)).alloc (.cells #[.slice none 0 0,.int .i64 0] 32)=W1 at*;refine rg (csc j (csc k (csc l csn))) (λhHeld=>?_);clear j k l;have i:=(Below.refl W1.heap.size W1).drew;have HB:=lh9 (zac HB.out i);have b:=lh9 (zad i b.out);have d:=lh9 (zad i d.out);have a:=lh9 (zad i a.out);clear i;generalize W1.drew=D at*;refine tk 0 ?_;refine tk 2 ?_;refine tk 3 ?_;refine rc 1 (λKK f=>?_);go_simp;refine((HR _).out).mono ?_;rintro e w2 ⟨rfl,hb⟩;refine f.out _ _ (Cs.below hHeld hb) (λhHeld=>?_);clear f KK;have HB:=lh9 (zac HB.out hb);have b:=lh9 (zad hb b.out);have d:=lh9 (zad hb d.out);have a:=lh9 (zad hb a.out);clear hb;refine rc 4 (λKK f=>?_);go_simp;refine((o _).out).mono ?_;rintro e w2 ⟨rfl,rfl⟩;refine f.out _ _ hHeld (λhHeld=>?_);clear f KK;refine tk 5 ?_;refine tk 6 ?_;refine tk 7 ?_;refine tk 8 ?_;refine rc 9 (λKK f=>?_);go_simp;refine(t.out _ HB.out b.out).mono ?_;rintro e w2 ⟨rfl,hb⟩;refine f.out _ _ (Cs.below hHeld hb) (λhHeld=>?_);clear f KK;have HB:=lh9 (zac HB.out hb);have b:=lh9 (zad hb b.out);have d:=lh9 (zad hb d.out);have a:=lh9 (zad hb a.out);clear hb;refine tk 10 ?_;refine rdn ?_;clear hHeld;obtain⟨u,y,x,z⟩:=st2 a.out (.slice none 0 0);obtain⟨r0,r1⟩:=(sn2 a.out (.slice none 0 0) (.int .i64 0)).c2;have HG:=lh9 (gmn2 (g:=w.heap.size+1+1) HB.out om9);clear HB b d a;go_wp2;refine bodyPost_ret (v:=.tuple #[.agg #[.slice none 0 0,.int .i64 0],.bool false]) (by simp [results,results60,go_sem,r0,r1]) rfl ?_;exact HG.out
 ·have o:=λW=>lh9 (zfD (by cases g:zfg (n:Int) (q:Int);rfl;exact absurd g hy) W);clear bx bz p r s h hy hz;obtain⟨j,k⟩:=b.out.c2;have l:=d.out.c1;go_enter func60,ntmps60;go_wp2_with fail;generalize ((w.alloc (.cells #[.slice A n c,.int .i64 (m:Int)] 32)).alloc (.cells #[.slice Q q qc] 28)).alloc (.cells #[.slice none 0 0,.int .i64 0] 32)=W1 at*;refine rg (csc j (csc k (csc l csn))) (λhHeld=>?_);clear j k l;have i:=(Below.refl W1.heap.size W1).drew;have HB:=lh9 (zac HB.out i);have b:=lh9 (zad i b.out);have d:=lh9 (zad i d.out);have a:=lh9 (zad i a.out);clear i;generalize W1.drew=D at*;refine tk 0 ?_;refine tk 2 ?_;refine tk 3 ?_;refine rc 1 (λKK f=>?_);go_simp;refine((HR _).out).mono ?_;rintro e w2 ⟨rfl,hb⟩;refine f.out _ _ (Cs.below hHeld hb) (λhHeld=>?_);clear f KK;have HB:=lh9 (zac HB.out hb);have b:=lh9 (zad hb b.out);have d:=lh9 (zad hb d.out);have a:=lh9 (zad hb a.out);clear hb;refine rc 4 (λKK f=>?_);go_simp;refine((o _).out).mono ?_;rintro e w2 ⟨rfl,rfl⟩;refine f.out _ _ hHeld (λhHeld=>?_);clear f KK;refine tk 5 ?_;refine tk 6 ?_;refine tu 7 ?_;refine tu 8 ?_;refine tu 9 ?_;refine tk 10 ?_;refine rdn ?_;clear hHeld;obtain⟨u,y,x,z⟩:=st2 a.out (.slice none 0 0);obtain⟨r0,r1⟩:=(sn2 a.out (.slice none 0 0) (.int .i64 0)).c2;have HG:=lh9 (gmn2 (g:=w.heap.size+1+1) HB.out om9);clear HB b d a;go_wp2;refine bodyPost_ret (v:=.tuple #[.agg #[.slice none 0 0,.int .i64 0],.bool false]) (by simp [results,results60,go_sem,r0,r1]) rfl ?_;exact HG.out
theorem zmU (hT:zam w)(h:zaH w A n c m MM)(z:zay K MM)(hz:zdj w Q q zs)(hq:q<=64)(hs:zee zs m=false)(hK:K+2<=67108864:=by omega):
  Calls prog 60 #[.agg #[.slice A n c,.int .i64 (m:Int)],.slice Q q qc] w (zbM w n q (zdS n zs MM)):=by
 obtain⟨hn,hm⟩:=And.intro h.hn h.hm;have hl:=hz.len;obtain⟨bx,x,y,B,bz⟩:=zbs w 32 28 32 #[.slice A n c,.int .i64 (m:Int)] #[.slice Q q qc] #[.slice none 0 0,.int .i64 0];have f:=lh9 x;have g:=lh9 y;have i:=lh9 B;have HB:=lh9 bx;have hmf:=zls;have HR:=λW=>lh9 (zbW A n c (m:Int) W);have G:=λW=>lh9 (zfD (zhf hn hq) W);have F:Hid (∀W,Below w.heap.size w W->Blk W w.heap.size 32 #[.slice A n c,.int .i64 (m:Int)]->Calls prog 129 #[.slice Q q qc,.func (.func 128) #[] #[.pointer (some ⟨w.heap.size,0,none⟩)]] W (λe w'=>e=.returned (.bool false)/\Below W.heap.size W w')):=λW hb hk=>by
  have:=zeF (q:=qc) (hz.below hb) hk om9;rw [hs] at this;exact this
 have HM:∀W,Below w.heap.size w W->Blk W w.heap.size 32 #[.slice A n c,.int .i64 (m:Int)]->Blk W (w.heap.size+1) 28 #[.slice Q q qc]->∀z9:Int,z9=(q:Int)->Hid (Calls prog 71 #[.int .i64 (n:Int),.int .i64 z9,.func (.func 130) #[] #[.pointer (some ⟨w.heap.size,0,none⟩),.pointer (some ⟨w.heap.size+1,0,none⟩)]] W (zbw W n q (zdS n zs MM))):=λW hW k0 k1 z9 I=>by
  subst I;have hh:=h.keep hW;have H:=hz.below hW;have q9:=zdG (K:=K) (λa b=>atM MM a (zs.getD b 0).toNat) 130 #[.pointer (some ⟨w.heap.size,0,none⟩),.pointer (some ⟨w.heap.size+1,0,none⟩)] n q W (hT.on hW) ⟨en_pick2,λa b ha t w' hb=>by
   obtain⟨k,r,u⟩:=zlx hs (show b<zs.length by omega);obtain⟨ap,e,hc⟩:=(H.below hb).num b t;subst e;rw [r] at hc;dsimp only;rw [r,Int.toNat_natCast];exact cl_pick (hh.keep hb) (zad hb k0) (zad hb k1) hc ha t u⟩ (λa b ha t=>by
   obtain⟨k,r,u⟩:=zlx hs (show b<zs.length by omega);rw [r,Int.toNat_natCast];exact z.at_ h.dims ha u) hn hq hK
  unfold zdS;rw [hl];exact q9
 clear bx bz x y B hT h z hz hs hl;obtain⟨l,o⟩:=f.out.c2;have p:=g.out.c1;go_enter func60,ntmps60;go_wp2_with fail;generalize ((w.alloc (.cells #[.slice A n c,.int .i64 (m:Int)] 32)).alloc (.cells #[.slice Q q qc] 28)).alloc (.cells #[.slice none 0 0,.int .i64 0] 32)=W1 at*;refine rg (csc l (csc o (csc p csn))) (λhHeld=>?_);clear l o p;have j:=(Below.refl W1.heap.size W1).drew;have HB:=lh9 (zac HB.out j);have f:=lh9 (zad j f.out);have g:=lh9 (zad j g.out);have i:=lh9 (zad j i.out);clear j;generalize W1.drew=D at*;refine tk 0 ?_;refine tk 2 ?_;refine tk 3 ?_;refine rc 1 (λKK d=>?_);go_simp;refine((HR _).out).mono ?_;rintro e w2 ⟨rfl,hb⟩;refine d.out _ _ (Cs.below hHeld hb) (λhHeld=>?_);clear d KK;have HB:=lh9 (zac HB.out hb);have f:=lh9 (zad hb f.out);have g:=lh9 (zad hb g.out);have i:=lh9 (zad hb i.out);clear hb;refine rc 4 (λKK d=>?_);go_simp;refine((G _).out).mono ?_;rintro e w2 ⟨rfl,rfl⟩;refine d.out _ _ hHeld (λhHeld=>?_);clear d KK;refine tk 5 ?_;refine tk 6 ?_;refine tk 7 ?_;refine tk 8 ?_;refine rc 9 (λKK d=>?_);go_simp;refine(F.out _ HB.out f.out).mono ?_;rintro e w2 ⟨rfl,hb⟩;refine d.out _ _ (Cs.below hHeld hb) (λhHeld=>?_);clear d KK;have HB:=lh9 (zac HB.out hb);have f:=lh9 (zad hb f.out);have g:=lh9 (zad hb g.out);have i:=lh9 (zad hb i.out);clear hb;refine tk 10 ?_;refine rdn ?_;clear hHeld;obtain⟨l,o⟩:=f.out.c2;have p:=g.out.c1;go_wp2_with fail;refine rg (csc l (csc o (csc p csn))) (λhHeld=>?_);clear l o p;have j:=(Below.refl w2.heap.size w2).drew;have HB:=lh9 (zac HB.out j);have f:=lh9 (zad j f.out);have g:=lh9 (zad j g.out);have i:=lh9 (zad j i.out);clear j;generalize w2.drew=D at*;refine tk 0 ?_;refine tk 2 ?_;refine tk 3 ?_;refine tk 4 ?_;refine rc 1 (λKK d=>?_);go_simp;refine((HR _).out).mono ?_;rintro e w2 ⟨rfl,hb⟩;refine d.out _ _ (Cs.below hHeld hb) (λhHeld=>?_);clear d KK;have HB:=lh9 (zac HB.out hb);have f:=lh9 (zad hb f.out);have g:=lh9 (zad hb g.out);have i:=lh9 (zad hb i.out);clear hb;refine rc 5 (λKK d=>?_);go_simp;refine(HM _ HB.out f.out g.out _ (by rfl)).out.mono ?_;rintro e w3 ⟨A3,c3,rfl,E,C,hb⟩;refine d.out _ _ (Cs.below hHeld hb) (λhHeld=>?_);clear d KK;have s:=zad hb i.out;obtain⟨J,M,L,N⟩:=st2 s (.slice A3 (n) c3);obtain⟨r0,r1⟩:=(sn2 s (.slice A3 (n) c3) (.int .i64 ((q:Nat):Int))).c2;have HG:=lh9 (gmb2 E (λad e=>Nat.lt_of_lt_of_le i.out.lt (C ad e)) s (zac HB.out hb) om9);clear hb s E C HB HM f g i;refine rc 6 (λKK d=>?_);go_simp;refine d.out _ _ ?_ (λhHeld=>?_)
 ·refine Cs.far hHeld (zcM _ _ _ _) ⟨by show w.heap.size≠w.heap.size+1+1;omega,by show w.heap.size≠w.heap.size+1+1;omega,by show w.heap.size+1≠w.heap.size+1+1;omega,trivial⟩
 clear d KK;refine tk 7 ?_;refine rdn ?_;clear hHeld J M L N;go_wp2;refine bodyPost_ret (v:=.tuple #[.agg #[.slice A3 (n) c3,.int .i64 ((q:Nat):Int)],.bool true]) (by simp [results,results60,go_sem,r0,r1]) rfl ?_;exact HG.out
end
theorem zaZ.rows {E:El Rat}{w:World}{lo:Nat}{v:Value}{M:List (List Rat)}{vs:List Value}(h:zaZ E w lo v M vs):zaN (zaE E) w lo 80 v M vs:=
 ⟨h.own,h.sl,λi L hi=>by
  obtain⟨u,us,h1,h2⟩:=h.num i L hi;obtain⟨B,d,rfl,h3,-⟩:=h2.shape;exact⟨B,d,h1,h3⟩⟩
theorem zaZ.new {E:El Rat}{w:World}{lo:Nat}{v:Value}{M:List (List Rat)}{vs:List Value}{u:Value}(h:zaZ E w lo v M vs)(a:u.ownBlock=none\/u.ownBlock=some w.heap.size):(∀(i:Nat) (u':Value) (b:Nat),vs[i]?=some u'->u'.ownBlock=some b->u.ownBlock≠some b)/\∀b,u.ownBlock=some b->v.ownBlock≠some b:=by
 have hl:=h.len;refine⟨λi u' b hi e e2=>?_,λb e e2=>?_⟩
 ·have hlt:=(List.getElem?_eq_some_iff.1 hi).1;obtain⟨z,zs,h1,h2⟩:=h.num i _ (List.getElem?_eq_getElem om9);rw [hi] at h1;injection h1 with h1;subst h1;have:=(h2.own.lt b e).2;rcases a with a|a
  ·rw [a] at e2;cases e2
  ·rw [a] at e2;injection e2 with e2;omega
 ·have:=(h.own.lt b e2).2;rcases a with a|a
  ·rw [a] at e;cases e
  ·rw [a] at e;injection e with e;omega
def zkW (E:El Rat)(w:World)(n m:Nat)(M:List (List Rat))(e:Ending)(w':World):Prop:=∃(A:oA9) (c:Nat) (vs:List Value) (lo:Nat),e=.returned (.agg #[.slice A n c,.int .i64 (m:Int)])/\w.heap.size<=lo/\zaZ E w' lo (.slice A n c) M vs/\Below w.heap.size w w'
structure zmf (E:El Rat)(lo:Nat):Prop where
 st:zbp E
 slot:∀{w:World} {g:Nat} {B:oA9} {p d:Nat} {u:Value} {x:Rat} {b:Bool} {A:oA9} {n c:Nat} {F:oA9} {k f:Nat},lo<=g->w.cell? ⟨g,0,none⟩=some (.slice B p d)->E w x b A n c F k f->E (w.setCell ⟨g,0,none⟩ u) x b A n c F k f
 offz:∀{w:World} {g:Nat} {t:TypeId} {u v:Value} {x:Rat} {b:Bool} {A:oA9} {n c:Nat} {F:oA9} {k f:Nat},lo<=g->Blk w g t #[.slice none 0 0,.int .i64 0]->E w x b A n c F k f->E ((w.setCell ⟨g,0,none⟩ u).setCell ⟨g,1,none⟩ v) x b A n c F k f
theorem zmf.ref (lo:Nat):zmf zbZ lo:=⟨zao,λ_ hp h=>zkI h hp _,λ_ hk h=>zkH h hk (zcM _ _ _ _)⟩
theorem zgG {E:El Rat}{A:oA9}{n c m:Nat}{M:List (List Rat)}{w:World}(hE:zmf E w.heap.size)(h:zbP w A n c m M)(hL:zaJ (zaE E) w A n M):
  Calls prog 66 #[.agg #[.slice A n c,.int .i64 (m:Int)]] w (zkW E w n m M):=by
 obtain⟨i9,a7,a8,aq,ar⟩:=info_parts zeK;obtain⟨a9,a6,au,av,aw⟩:=info_parts zin;have hn0:n<=64:=h.hn;have hm0:m<=64:=h.hm;have HL:Hid (M.length=n):=h.dims.rows;have HS:Hid (∀k,k<n->M.take (k+1)=M.take k++[M.getD k []]):=λk hk=>zgg (zcd (d:=[]) (by rw [HL.out];exact hk));have ac:Hid (∀k,k<n->(M.getD k []).length=m):=λk hk=>h.dims.row hk;obtain⟨P,Q,al,bz⟩:=zbg w 36 36 #[.slice A n c,.int .i64 (m:Int)] #[.slice none 0 0,.int .i64 0];have az:=lh9 (hL.below (zaq hE.st) P);obtain⟨g0,g1⟩:=Q.c2;have ax:=lh9 P;have HK:=lh9 Q;have ay:=lh9 al;clear h hL P Q al;have HE:=lh9 hE;clear hE;go_enter func66,ntmps66;go_upto_region 1 with fail;generalize (w.alloc (.cells #[.slice A n c,.int .i64 (m:Int)] 36)).alloc (.cells #[.slice none 0 0,.int .i64 0] 36)=W2 at*;go_wp2_with fail;obtain⟨am,an,-⟩:=zaD W2 36 #[.slice none 0 0,.int .i64 (m:Int)];generalize W2.alloc (.cells #[.slice none 0 0,.int .i64 (m:Int)] 36)=W3 at*;have hB:=am;have hP:=an;obtain⟨gp,t⟩:∃g,W2.heap.size=g:=⟨_,rfl⟩;have a5:W2.heap.size<=gp:=om9;obtain⟨mm,R⟩:∃z:Int,(m:Int)=z:=⟨_,rfl⟩;rw [t] at hP
 first
  |rw [t]
  |skip
 rw [R] at hP;have a0:=lh9 R;have hlt0:w.heap.size+1<gp:=om9;clear g0 g1 am an t R
 go_loopg [4] (n+1) (λg ix wr=>∃(k:Nat) (v:Value) (vs:List Value),k<=n/\n<g+k/\ix=.int .i64 k/\zaZ E wr (gp+1) v (M.take k) vs/\Blk wr gp 36 #[v,.int .i64 mm]/\Below W2.heap.size W2 wr)
 case atStart=>exact⟨0,_,_,Nat.zero_le _,om9,rfl,zaZ.nil _ _ _,hP,hB⟩
 case round=>
  clear hB hP;obtain⟨k,v,vs,hkn,hg,rfl,b,hP,hB⟩:=hrel;obtain⟨g0,g1⟩:=(zad hB HK.out).c2;have F:(M.take k).length=k:=by rw [List.length_take,HL.out];omega
  by_cases hlt:k<n
  ·obtain⟨Av,cv,rfl,-⟩:=b.rows.shape F;have a4:decide ((k:Int)<(n:Int))=true:=decide_eq_true om9;have ap:decide (k<n)=true:=decide_eq_true hlt;have i1:(0:Int)<=(k:Int):=om9;have i2:(k:Int)<(n:Int):=om9;obtain⟨ad,Bk,dk,rfl,-,a3,S⟩:=az.out.get (zaq HE.out.st) hB hlt (ac.out k hlt);have ai:=lh9 (HS.out k hlt);have ab:=lh9 (ac.out k hlt);obtain⟨Lk,ao⟩:∃L,M.getD k []=L:=⟨_,rfl⟩;rw [ao] at S ai ab;have ah:=lh9 F;have a2:=lh9 S;have p:=lh9 b;have ag:=lh9 hP;have V:=lh9 hB;have X:=lh9 hP.lt;clear b hP hB F S ao;go_upto_region 6 with fail;go_upto_region 7 with(at_builtin;go_loud (refine zgN HE.out.st _ rfl (.tmp 16) (.tmp 21) 80 rfl (gp+1) 60 a9 (.agg #[.bool false,.slice none 0 0,.slice none 0 0]) 56 underlying80 a6 au av aw rfl rfl rfl a2.out (by unfold maxLen;omega) om9 X.out zeT ?_;intro u w6 us C a i;obtain⟨Au,cu,rfl,-,-⟩:=C.shape;rw [ab.out] at C i⊢;have aa:=lh9 C;have l:=lh9 (p.out.new i);have B:=zbx a;have G:=lh9 (p.out.below HE.out.st B);have O:=lh9 (zad B ag.out);have T:=lh9 (zac V.out B);clear C a i B g0 g1 a3));obtain⟨t1,t2,-⟩:=zaD w6 80 #[.slice Au m cu];have o:=lh9 (G.out.below HE.out.st t1);have HP:=lh9 (zad t1 O.out);have HB:=lh9 (zac T.out t1);have HG:=lh9 (aa.out.below HE.out.st t1);have Z:=lh9 HB.out.size;obtain⟨q0,q1⟩:=O.out.c2;clear t1 t2 p ag V X aa G T;have x:=o.out.own;rw [ah.out] at x;have I:=lh9 x;have aj:=lh9 o.out.sl;have j:=lh9 (zaQ w6 (.slice Au m cu) 80);have Y:=lh9 HP.out.lt;have N:=lh9 (λr (h:(Value.slice Av k cv).ownBlock=some r)=>o.out.own.lt r h);have ak:Hid (∀u ∈(Value.slice none 0 0).cells.toList,zbf u):=by intro u hu;simp [Value.cells] at hu;exact⟨_,_,_,hu⟩
   have ae:Hid (∀u ∈ [Value.slice Au m cu],zbf u):=by intro u hu;simp at hu;exact⟨_,_,_,hu⟩
   have H:Hid (∀u ∈ [Value.slice Au m cu],u.oneCell'=true):=by intro u hu;simp at hu;subst hu;rfl
   clear x;go_wp2_with (at_builtin;go_loud (refine zbv _ rfl (.tmp 24) (.tmp 26) 34 rfl (gp+1) 80 i9 (.slice none 0 0) 1 24 underlying34 a7 a8 aq ar rfl de9 (.slice Av k cv) k vs rfl I.out ⟨w6.heap.size,0,none⟩ 1 1 [.slice Au m cu] rfl rfl j.out H.out (by unfold maxLen;omega) om9 Y.out aj.out ak.out ae.out ?_;intro v' w8 y a i J;have f:=zaZ.grow (n:=k+1) (L:=Lk) HE.out.st o.out HG.out l.out.1 l.out.2 y (by rw [ah.out]) a i J;rw [<-ai.out] at f;obtain⟨A8,c8,rfl,-⟩:=f.rows.shape (n:=k+1) (by rw [List.length_take,HL.out];omega);have s:Hid (Blk w8 gp 36 #[.slice Av k cv,.int .i64 mm]):=zaC HP.out a (λe=>by have:=(N.out _ e).1;omega);have U:=lh9 (HB.out.grown a Z.out (λr hr=>by have:=(N.out r hr).1;omega));have af:=lh9 (f.slot (g:=gp) (Nat.lt_succ_self gp) (.slice A8 (k+1) c8) (λh5=>HE.out.slot om9 (s.out.cell 0) h5));have a1:Hid (Blk (w8.setCell ⟨gp,0,none⟩ (.slice A8 (k+1) c8)) gp 36 #[.slice A8 (k+1) c8,.int .i64 mm]):=s.out.set_ 0 (.slice A8 (k+1) c8);have K:=lh9 (bl1 (.slice A8 (k+1) c8) a5 U.out);obtain⟨ba,bb⟩:=s.out.c2;have bc:=s.out.frozen 0;clear f y a i J o HG I aj j N ak ae H l q0 q1 s U HP HB Y Z O));go_roundg (n - k)
   case measure=>omega
   case rel=>exact⟨k+1,_,_,om9,om9,by go_num,af.out,a1.out,K.out⟩
  ·have hk:k=n:=om9;subst hk;have a4:decide ((k:Int)<(k:Int))=false:=si9;have ap:decide (k<k)=false:=si9;rw [List.take_of_length_le (by rw [HL.out];exact Nat.le_refl _)] at b;obtain⟨A7,c7,rfl,-⟩:=b.rows.shape HL.out;obtain⟨q0,q1⟩:=hP.c2;have D:=zad hB ay.out;obtain⟨ba,bc,bb,sf1⟩:=st2 D (.slice A7 k c7);obtain⟨r0,r1⟩:=(sn2 D (.slice A7 k c7) (.int .i64 (m:Int))).c2;have HO:=lh9 (b.offz (g:=w.heap.size+1) om9 (.slice A7 k c7) (.int .i64 (m:Int)) (λh5=>HE.out.offz om9 D h5));have K:=lh9 (bl2 (.slice A7 k c7) (.int .i64 (m:Int)) (show w.heap.size<=w.heap.size+1 by omega) (zac ax.out hB));obtain rfl:=a0.out;clear b D hB hP F;go_wp2;refine bodyPost_ret (v:=.agg #[.slice A7 k c7,.int .i64 (m:Int)]) (by simp [results,results66,go_sem,r0,r1]) rfl ?_;exact(show zkW _ _ _ _ _ _ _ from⟨A7,c7,vs,gp+1,rfl,om9,HO.out,K.out⟩)
theorem zqZ {A:oA9}{n c m:Nat}{M:List (List Rat)}{w:World}(h:zbP w A n c m M):
  Calls prog 66 #[.agg #[.slice A n c,.int .i64 (m:Int)]] w (zkW zbZ w n m M):=zgG (zmf.ref _) h h.rows
section
variable {α:Type}{E:El α}
theorem zbD.open {w:World}{base n c:Nat}{t:TypeId}{ad:Addr}{xs:List α}{vs:List Value}(h:zbD E w base t (.slice (some ad) n c) xs vs):
  ∃a:Array Value,ad=⟨ad.block,0,none⟩/\base<=ad.block/\n=xs.length/\Blk w ad.block t a/\xs.length<=c/\c<=maxLen/\a.size=c*3/\a.toList.take (xs.length*3)=vs/\NoU a:=by
 rcases h.own.2 with⟨e,h0⟩|⟨g,cap,a,e,hbg,hg,hnc,hcm,hcs,htake⟩
 ·cases e
 ·injection e with e1 e2 e3;injection e1 with e1;subst e1 e2 e3;obtain⟨d,e2,b,i⟩:=h.nou g rfl;have f:d=a:=by
   rw [hg] at b;injection b with b;injection b with b;exact b.symm
  subst f;exact⟨d,rfl,hbg,rfl,hg,hnc,hcm,hcs,htake,λu hu k z=>i u hu k z⟩
theorem zbD.ready {w:World}{base n c:Nat}{t:TypeId}{ad:Addr}{xs:List α}{vs:List Value}(h:zbD E w base t (.slice (some ad) n c) xs vs){i:Nat}(hi:i<n)(x y:Value):∃a b d:Value,w.cell? ⟨ad.block,i*3,none⟩=some a/\w.frozen? ⟨ad.block,i*3,none⟩=false/\(w.setCell ⟨ad.block,i*3,none⟩ x).cell? ⟨ad.block,i*3+1,none⟩=some b/\(w.setCell ⟨ad.block,i*3,none⟩ x).frozen? ⟨ad.block,i*3+1,none⟩=false/\
  ((w.setCell ⟨ad.block,i*3,none⟩ x).setCell ⟨ad.block,i*3+1,none⟩ y).cell? ⟨ad.block,i*3+2,none⟩=some d/\((w.setCell ⟨ad.block,i*3,none⟩ x).setCell ⟨ad.block,i*3+1,none⟩ y).frozen? ⟨ad.block,i*3+2,none⟩=false:=by
 obtain⟨cs,-,-,h0,hk,h1,-,h2,-⟩:=h.open;have f:=hk.set_ (i*3) x;have g:=f.set_ (i*3+1) y;have e0:i*3<cs.size:=om9;have e1:i*3+1<(cs.setIfInBounds (i*3) x).size:=by simp;omega
 have e2:i*3+2<((cs.setIfInBounds (i*3) x).setIfInBounds (i*3+1) y).size:=by simp;omega
 exact⟨_,_,_,(hk.cell _).trans (Array.getElem?_eq_getElem e0),hk.frozen _,(f.cell _).trans (Array.getElem?_eq_getElem e1),f.frozen _,(g.cell _).trans (Array.getElem?_eq_getElem e2),g.frozen _⟩
theorem zbD.put (hE:zbp E){w:World}{base n c:Nat}{t:TypeId}{ad:Addr}{xs:List α}{vs:List Value}(h:zbD E w base t (.slice (some ad) n c) xs vs){i:Nat}(hi:i<n){x:α}{b:Bool}{B:oA9}{m d:Nat}{F:oA9}{u v:Nat}(hx:E w x b B m d F u v):
  ∃J,zbD E (((w.setCell ⟨ad.block,i*3,none⟩ (.bool b)).setCell ⟨ad.block,i*3+1,none⟩ (.slice B m d)).setCell ⟨ad.block,i*3+2,none⟩ (.slice F u v)) base t (.slice (some ad) n c) (xs.set i x) J:=by
 obtain⟨cs,e9,r,h0,hk,h1,G,h2,h3,l⟩:=h.open;obtain⟨g,o,p⟩:=ad;simp only [Addr.mk.injEq,true_and] at e9;obtain⟨rfl,rfl⟩:=e9;simp only at hk r⊢;have ho:=zbn.of_far (offg3 g (i*3) (i*3+1) (i*3+2) w (.bool b) (.slice B m d) (.slice F u v));have s:=((hk.set_ (i*3) (.bool b)).set_ (i*3+1) (.slice B m d)).set_ (i*3+2) (.slice F u v);have H:NoU (((cs.setIfInBounds (i*3) (.bool b)).setIfInBounds (i*3+1) (.slice B m d)).setIfInBounds (i*3+2) (.slice F u v)):=zgc (zgc (zgc l _ (λ_ _ e=>by cases e)) _ (λ_ _ e=>by cases e)) _ (λ_ _ e=>by cases e);generalize ((w.setCell ⟨g,i*3,none⟩ (.bool b)).setCell ⟨g,i*3+1,none⟩ (.slice B m d)).setCell ⟨g,i*3+2,none⟩ (.slice F u v)=w3 at*;obtain⟨cs3,a⟩:∃q,((cs.setIfInBounds (i*3) (.bool b)).setIfInBounds (i*3+1) (.slice B m d)).setIfInBounds (i*3+2) (.slice F u v)=q:=⟨_,rfl⟩;have A:cs3.size=cs.size:=by rw [<-a];simp
 have f:∀k,k<xs.length*3->(cs3.toList.take (xs.length*3))[k]?=cs3[k]?:=λk D=>by
  rw [List.getElem?_take_of_lt D,Array.getElem?_toList]
 refine⟨cs3.toList.take (xs.length*3),⟨⟨?_,.inr ⟨g,c,cs3,by rw [List.length_set,h0],r,by rw [<-a];exact s,by rw [List.length_set];exact h1,G,by rw [A];exact h2,by rw [List.length_set]⟩⟩,?_,?_⟩⟩
 ·have I:cs3.toList.length=c*3:=by rw [Array.length_toList,A,h2]
  rw [List.length_take,I,List.length_set];omega
 ·intro g' e;simp [Value.ownBlock] at e;subst e;exact⟨cs3,t,by rw [<-a];exact s,λq hq k z=>by rw [<-a] at hq;exact H q hq k z⟩
 ·intro j y hj;have C:=(List.getElem?_eq_some_iff.1 hj).1;rw [List.length_set] at C;by_cases hij:i=j
  ·subst hij;rw [List.getElem?_set_self om9] at hj;injection hj with hj;subst hj;refine⟨b,B,m,d,F,u,v,?_,?_,?_,hE.offg hx hk l ho⟩
   ·rw [f _ om9,<-a,Array.getElem?_setIfInBounds_ne om9,Array.getElem?_setIfInBounds_ne om9,Array.getElem?_setIfInBounds_self_of_lt om9]
   ·rw [f _ om9,<-a,Array.getElem?_setIfInBounds_ne om9,Array.getElem?_setIfInBounds_self_of_lt (by simp;omega)]
   ·rw [f _ om9,<-a,Array.getElem?_setIfInBounds_self_of_lt (by simp;omega)]
  ·rw [List.getElem?_set_ne hij] at hj;obtain⟨b1,B1,m1,d1,F1,u1,f1,c1,c2,c3,c4⟩:=h.num j y hj;rw [<-h3,List.getElem?_take_of_lt om9,Array.getElem?_toList] at c1 c2 c3;refine⟨b1,B1,m1,d1,F1,u1,f1,?_,?_,?_,hE.offg c4 hk l ho⟩
   ·rw [f _ om9,<-a,Array.getElem?_setIfInBounds_ne om9,Array.getElem?_setIfInBounds_ne om9,Array.getElem?_setIfInBounds_ne om9];exact c1
   ·rw [f _ om9,<-a,Array.getElem?_setIfInBounds_ne om9,Array.getElem?_setIfInBounds_ne om9,Array.getElem?_setIfInBounds_ne om9];exact c2
   ·rw [f _ om9,<-a,Array.getElem?_setIfInBounds_ne om9,Array.getElem?_setIfInBounds_ne om9,Array.getElem?_setIfInBounds_ne om9];exact c3
end
theorem zex {w w':World}{base a n:Nat}{e:TypeId}{v:Value}{xs:List Value}(h:w.ownsRow base e a v n xs)(hg:∀b,v.ownBlock=some b->w'.heap[b]?=w.heap[b]?):w'.ownsRow base e a v n xs:=by
 refine⟨h.1,?_⟩;rcases h.2 with h1|⟨g,cap,cur,e1,e2,e3,e4⟩
 ·exact .inl h1
 ·exact .inr ⟨g,cap,cur,e1,e2,(hg g (by rw [e1];rfl)).trans e3,e4⟩
theorem zaZ.put {E:El Rat}(hE:zbp E){w:World}{lo n c i j:Nat}{v:Value}{M:List (List Rat)}{vs:List Value}{L:List Rat}{ad:Addr}(h:zaZ E w lo v M vs)(hM:M[i]?=some L)(hu:vs[i]?=some (.slice (some ad) n c))(hj:j<n){x:Rat}{b:Bool}{B:oA9}{m d:Nat}{F:oA9}{u f:Nat}(hx:E w x b B m d F u f):
  zaZ E (((w.setCell ⟨ad.block,j*3,none⟩ (.bool b)).setCell ⟨ad.block,j*3+1,none⟩ (.slice B m d)).setCell ⟨ad.block,j*3+2,none⟩ (.slice F u f)) lo v (M.set i (L.set j x)) vs:=by
 obtain⟨z,zs,h1,h2⟩:=h.num i L hM;rw [hu] at h1;injection h1 with h1;subst h1;obtain⟨o,hp⟩:=h2.put hE hj hx;obtain⟨cs,-,-,-,hk,-,-,-,-,l⟩:=h2.open;have ho:=zbn.of_far (offg3 ad.block (j*3) (j*3+1) (j*3+2) w (.bool b) (.slice B m d) (.slice F u f));have hh:∀k,k≠ad.block->(((w.setCell ⟨ad.block,j*3,none⟩ (.bool b)).setCell ⟨ad.block,j*3+1,none⟩ (.slice B m d)).setCell ⟨ad.block,j*3+2,none⟩ (.slice F u f)).heap[k]?=w.heap[k]?:=λk a=>
  (Below.heap_setCell _ ⟨ad.block,j*3+2,none⟩ _ k a).trans ((Below.heap_setCell _ ⟨ad.block,j*3+1,none⟩ _ k a).trans (Below.heap_setCell w ⟨ad.block,j*3,none⟩ _ k a))
 generalize ((w.setCell ⟨ad.block,j*3,none⟩ (.bool b)).setCell ⟨ad.block,j*3+1,none⟩ (.slice B m d)).setCell ⟨ad.block,j*3+2,none⟩ (.slice F u f)=w3 at*;have g:∀q,v.ownBlock=some q->q≠ad.block:=λq e e2=>h.far i _ ad.block hu rfl (e.trans (by rw [e2]));refine⟨by rw [List.length_set];exact zex h.own (λq e=>hh q (g q e)),h.sl.block (λq e=>hh q (g q e)),λk K a=>?_,h.apart,h.far⟩;by_cases hik:i=k
 ·subst hik;have hl:=(List.getElem?_eq_some_iff.1 hM).1;rw [List.getElem?_set_self om9] at a;injection a with a;subst a;exact⟨_,o,hu,hp⟩
 ·rw [List.getElem?_set_ne hik] at a;obtain⟨z1,p,h3,h4⟩:=h.num k K a;exact⟨z1,p,h3,h4.moved (λq e=>hh q (λe2=>hik (h.apart i k _ z1 ad.block hu h3 rfl (by rw [e,e2])))) (λh5=>hE.offg h5 hk l ho)⟩
theorem zdz {α:Type}{l:List α}{k i:Nat}{x z:α}(h:(l.set k x)[i]?=some z)(a:k≠i):l[i]?=some z:=by rwa [List.getElem?_set_ne a] at h
theorem zdK {α:Type}{l:List α}{k:Nat}{x z:α}(h:(l.set k x)[k]?=some z):z=x:=by
 have hl:=(List.getElem?_eq_some_iff.1 h).1;rw [List.length_set] at hl;rw [List.getElem?_set_self hl] at h;injection h with h;exact h.symm
theorem zaZ.push {E:El Rat}(hE:zbp E){w w':World}{lo k n0 c0:Nat}{v u u':Value}{M:List (List Rat)}{vs H:List Value}{L L':List Rat}{ad:Addr}(h:zaZ E w lo v M vs)(hM:M[k]?=some L)(hu:vs[k]?=some u)(hv:v=.slice (some ad) n0 c0)
  (hg:w.grownBy w' u.ownBlock) (hx:zbD E w' lo 60 u' L' H) (a:u'.ownBlock=u.ownBlock\/u'.ownBlock=some w.heap.size) (hs:zbf u'):
  zaZ E (w'.setCell ⟨ad.block,k,none⟩ u') lo v (M.set k L') (vs.set k u'):=by
 obtain⟨z,zs,h1,h2⟩:=h.num k L hM;rw [hu] at h1;injection h1 with h1;subst h1;have O:=h2.nou;have d:v.ownBlock=some ad.block:=by rw [hv];rfl
 have hl:=(List.getElem?_eq_some_iff.1 hM).1;have hlen:=h.len;obtain⟨m,e9,l,D⟩:=h.sl _ d;rcases h.own.2 with⟨e,h0⟩|⟨g,cap,cur,e1,hbg,hkc,hnc,hcm,hcz,hct⟩
 ·rw [hv] at e;cases e
 have N:ad.block=g:=by rw [e1] at d;simp [Value.ownBlock] at d;exact d.symm
 subst N;have J:m=cur:=by
  rw [hkc] at l;injection l with l;injection l with l;exact l.symm
 subst J;have C:ad.block<w.heap.size:=Blk.lt (t:=80) (cs:=m) hkc;have s:Blk w' ad.block 80 m:=(hg.block ad.block C (λe=>h.far k u ad.block hu e.symm d)).trans hkc;have B:=s.set_ k u';have hh:∀q,q≠ad.block->(w'.setCell ⟨ad.block,k,none⟩ u').heap[q]?=w'.heap[q]?:=λq hq=>Below.heap_setCell w' ⟨ad.block,k,none⟩ u' q hq;have o:∀{x:Rat} {b:Bool} {A:oA9} {n c:Nat} {F:oA9} {k9 f:Nat},E w' x b A n c F k9 f->E (w'.setCell ⟨ad.block,k,none⟩ u') x b A n c F k9 f:=λh5=>hE.offg h5 s (zpb D) (zbn.of_far ((zbS.refl _ _).set_ _ _));generalize w'.setCell ⟨ad.block,k,none⟩ u'=w2 at*;have G:∀b,u'.ownBlock=some b->b≠ad.block:=λb e e2=>by
  subst e2;rcases a with a|a
  ·exact h.far k u _ hu (a.symm.trans e) d
  ·rw [a] at e;injection e with e;omega
 have r:∀{i:Nat} {z:Value} {b:Nat},vs[i]?=some z->z.ownBlock=some b->b<w.heap.size:=fun{i z b} hi e=>by
  have hi9:=(List.getElem?_eq_some_iff.1 hi).1;obtain⟨z9,I,h3,h4⟩:=h.num i _ (List.getElem?_eq_getElem om9);rw [hi] at h3;injection h3 with h3;subst h3;exact(h4.own.lt b e).2
 have p:∀{i:Nat} {z:Value} {b:Nat},vs[i]?=some z->z.ownBlock=some b->u'.ownBlock=some b->i=k:=fun{i z b} hi e e2=>by
  rcases a with a|a
  ·exact h.apart i k z u b hi hu e (a.symm.trans e2)
  ·have:=r hi e;rw [a] at e2;injection e2 with e2;omega
 refine⟨⟨by rw [List.length_set,List.length_set];exact h.own.1,.inr ⟨ad.block,cap,_,by rw [List.length_set];exact e1,hbg,B,by rw [List.length_set];exact hnc,hcm,by simp only [Array.size_setIfInBounds];exact hcz,?_⟩⟩,?_,λi K hi=>?_,λi j z z' b hi hj e e'=>?_,λi z b hi e=>?_⟩
 ·rw [Array.toList_setIfInBounds,List.length_set,List.take_set,hct]
 ·intro q e;rw [d] at e;injection e with e;subst e;refine⟨_,_,B,λy hy=>?_⟩;rw [Array.toList_setIfInBounds] at hy;rcases List.mem_or_eq_of_mem_set hy with hy|rfl
  ·exact D y hy
  ·exact hs
 ·by_cases hik:k=i
  ·subst hik;obtain rfl:=zdK hi;exact⟨u',H,List.getElem?_set_self om9,hx.moved (λb e=>hh b (G b e)) o⟩
  ·obtain⟨z,I,h3,h4⟩:=h.num i K (zdz hi hik);exact⟨z,I,by rw [List.getElem?_set_ne hik];exact h3,h4.moved (λb e=>(hh b (λe2=>h.far i z b h3 e (by rw [d,e2]))).trans (hg.block b (r h3 e) (λe2=>hik (h.apart k i u z b hu h3 e2.symm e)))) (λh5=>o (hE.grown h5 hg O))⟩
 ·by_cases hik:k=i
  ·subst hik;obtain rfl:=zdK hi;by_cases hjk:k=j
   ·exact hjk
   ·exact(p (zdz hj hjk) e' e).symm
  ·by_cases hjk:k=j
   ·subst hjk;obtain rfl:=zdK hj;exact p (zdz hi hik) e e'
   ·exact h.apart i j z z' b (zdz hi hik) (zdz hj hjk) e e'
 ·by_cases hik:k=i
  ·subst hik;obtain rfl:=zdK hi;intro e2;rw [d] at e2;injection e2 with e2;exact G b e e2.symm
  ·exact h.far i z b (zdz hi hik) e
def ZR (E:El Rat)(Z:Nat->Prop):RP Rat:=λw B m d L=>zaE E w B m d L/\∀ad,B=some ad->Z ad.block
theorem zfU {E:El Rat}(hE:zbp E)(Z:Nat->Prop):zcL (ZR E Z):=⟨λh=>h.1.len,λh hb=>⟨h.1.below hE hb,h.2⟩,λh hk hs ho=>⟨zfN hE h.1 hk hs ho,h.2⟩,λw=>⟨zaE.nil w,λad e=>by cases e⟩⟩
theorem ZR.grown {E:El Rat}(hE:zbp E){Z:Nat->Prop}{w w':World}{u:Value}{B:oA9}{m d:Nat}{L:List Rat}(h:ZR E Z w B m d L)(hg:w.grownBy w' u.ownBlock)(hn:zbE w u)(hz:∀b,u.ownBlock=some b->¬ Z b):ZR E Z w' B m d L:=by
 refine⟨?_,h.2⟩;cases hv:u.ownBlock with
 |none=>rw [hv] at hg;exact h.1.below hE (zbx hg)
 |some g=>
   rw [hv] at hg;obtain⟨t,cs,hk,hc⟩:=hn.blk hv;have ho:zbn g w w':=zbn.of_grown hg;refine⟨h.1.len,h.1.fits,h.1.most,λi x hi=>?_⟩;obtain⟨ad,b,B1,m1,d1,F,u1,v1,e,h1,h2,h3,h4,h5⟩:=h.1.num i x hi;have c:ad.block≠g:=λe9=>hz g hv (e9▸h.2 ad e);have a:∀j,w'.cell? (ad.add j)=w.cell? (ad.add j):=λj=>ho.2 _ (by rw [zan];exact h1) (by rw [zan];exact c);exact⟨ad,b,B1,m1,d1,F,u1,v1,e,Nat.lt_of_lt_of_le h1 ho.1,(a _).trans h2,(a _).trans h3,(a _).trans h4,hE.offg h5 hk hc ho⟩
theorem zaZ.zrows {E:El Rat}{Z:Nat->Prop}{w:World}{lo:Nat}{v:Value}{M:List (List Rat)}{vs:List Value}(h:zaZ E w lo v M vs)(hz:∀(i:Nat) (u:Value) (b:Nat),vs[i]?=some u->u.ownBlock=some b->Z b):zaN (ZR E Z) w lo 80 v M vs:=
 ⟨h.own,h.sl,λi L hi=>by
  obtain⟨u,us,h1,h2⟩:=h.num i L hi;obtain⟨B,d,rfl,h3,-⟩:=h2.shape;exact⟨B,d,h1,h3,λad e=>hz i _ _ h1 (by subst e;rfl)⟩⟩
structure ZM (E:El Rat)(Z:Nat->Prop)(w:World)(A:oA9)(n c:Nat)(M:List (List Rat)):Prop where
 fits:n<=c
 most:c<=9223372036854775807
 rows:zaJ (ZR E Z) w A n M
 ty:∀ad,A=some ad->zgu w ad.block 80
theorem ZM.below {E:El Rat}(hE:zbp E){Z:Nat->Prop}{w w':World}{A:oA9}{n c:Nat}{M:List (List Rat)}(h:ZM E Z w A n c M)(hb:Below w.heap.size w w'):ZM E Z w' A n c M:=⟨h.fits,h.most,h.rows.below (zfU hE Z) hb,λad e=>(h.ty ad e).below hb⟩
theorem zaN.zm {E:El Rat}{Z:Nat->Prop}{w:World}{base n:Nat}{v:Value}{M:List (List Rat)}{vs:List Value}(h:zaN (ZR E Z) w base 80 v M vs)(hn:M.length=n):∃A c,v=.slice A n c/\ZM E Z w A n c M:=by
 obtain⟨A,c,rfl,h1,h2,h3,h4⟩:=h.shape hn;refine⟨A,c,rfl,h1,h2,h3,λad e=>?_⟩;subst e;rcases h.own.2 with⟨e1,h0⟩|⟨g,cap,cur,e1,e2,e3,e4⟩
 ·cases e1
 ·injection e1 with e1 _ _;injection e1 with e1;subst e1;exact⟨cur,e3⟩
theorem ZM.grown {E:El Rat}(hE:zbp E){E':El Rat}{Z:Nat->Prop}{w w':World}{A:oA9}{n c base m:Nat}{M:List (List Rat)}{u:Value}{L:List Rat}{us:List Value}(h:ZM E Z w A n c M)(hu:zbD E' w base 60 u L us)(hg:w.grownBy w' u.ownBlock)(hz:∀b,u.ownBlock=some b->¬ Z b):ZM E Z w' A n c M:=by
 cases hv:u.ownBlock with
 |none=>rw [hv] at hg;exact h.below hE (zbx hg)
 |some g=>
   obtain⟨B,d,rfl,-,-⟩:=hu.shape;cases B with
   |none=>simp [Value.ownBlock] at hv
   |some ad=>
     obtain⟨cur,-,-,-,hk,-⟩:=hu.open;have hb:ad.block=g:=by simp [Value.ownBlock] at hv;exact hv
     subst hb;have f:=hg;rw [hv] at f;refine⟨h.fits,h.most,h.rows.off (λa e=>(h.ty a e).ne hk de9) (zbn.of_grown f) (λh5=>ZR.grown hE h5 hg hu.nou hz),λa e=>?_⟩;obtain⟨cs,h9⟩:=h.ty a e;exact⟨cs,zaC h9 f (λe2=>by injection e2 with e2;exact(h.ty a e).ne hk de9 e2.symm)⟩
theorem ZM.slot {E:El Rat}(hE:zbp E){Z:Nat->Prop}{w:World}{A:oA9}{n c g i:Nat}{M:List (List Rat)}{t:TypeId}{cs:Array Value}(h:ZM E Z w A n c M)(hk:Blk w g t cs)(hs:∀u ∈ cs.toList,zbf u)(a:∀ad,A=some ad->ad.block≠g)(x:Value):ZM E Z (w.setCell ⟨g,i,none⟩ x) A n c M:=
 ⟨h.fits,h.most,h.rows.off a (zbn.of_far ((zbS.refl _ _).set_ _ _)) (λh5=>(zfU hE Z).offS h5 hk hs (zbn.of_far ((zbS.refl _ _).set_ _ _))),λad e=>(h.ty ad e).set_ _ _ _⟩
theorem ZM.refm {E:El Rat}{Z:Nat->Prop}{w:World}{A:oA9}{n c m:Nat}{M:List (List Rat)}(h:ZM E Z w A n c M)(hd:zbG M n m)(hn:n<=64)(hm:m<=64)(hR:∀{x:Rat} {b:Bool} {A:oA9} {n c:Nat} {F:oA9} {k f:Nat},E w x b A n c F k f->zbZ w x b A n c F k f):zbP w A n c m M:=
 ⟨hd,h.fits,h.most,hn,hm,⟨h.rows.len,λi L hi=>by
  obtain⟨ad,B,d,e,h1,h2,h3⟩:=h.rows.num i L hi;exact⟨ad,B,d,e,h1,h2,zhM h3.1 hR⟩⟩,h.ty⟩
