/- What this claim leans on. -/
import Derived.Test.YtcojjcjgbepicaaGreatDoorHMClos
namespace Go.Proofs.YtcojjcjgbepicaaGreatDoor
open Go Go.RowKit Go.Proofs.Tryz
set_option maxHeartbeats 16000000
set_option maxRecDepth 100000
set_option linter.unusedVariables false
set_option linter.unusedSimpArgs false
def badB (M:List (List Rat))(z:Int):Bool:=M.any λL=> !decide (((L.length:Nat):Int)=z)
def zee (zs:List Int)(m:Nat):Bool:=zs.any λz=> !inB z m
theorem ziC {α:Type}(p:α->Bool)(xs:List α)(d:α)(k:Nat)(h:k<xs.length):(xs.take (k+1)).any p=((xs.take k).any p||p (xs.getD k d)):=by
 rw [List.take_succ_eq_append_getElem h,List.any_append,List.getD_eq_getElem?_getD,List.getElem?_eq_getElem h];simp
theorem any_at {α:Type}(p:α->Bool)(xs:List α)(d:α)(k:Nat)(h:k<xs.length)(hp:p (xs.getD k d)=true):xs.any p=true:=by
 refine List.any_eq_true.2 ⟨xs.getD k d,?_,hp⟩;rw [List.getD_eq_getElem?_getD,List.getElem?_eq_getElem h];exact List.getElem_mem h
theorem dims_bad {M:List (List Rat)}{n m:Nat}(h:zbG M n m):badB M (m:Int)=false:=by
 unfold badB;refine List.any_eq_false.2 λL hL=>?_;have:=h.cols L hL;simp;omega
theorem zlk {gc q n:Nat}{Q:oA9}{M:List (List Rat)}{z:Int}{w:World}(h:zaJ (zaE zak) w Q n M)(hk:Blk w gc 3 #[.int .i64 z])(hn:n<=1048576):
  Calls prog 174 #[.slice Q n q,.func (.func 125) #[] #[.pointer (some ⟨gc,0,none⟩)]] w (λe w'=>∃k:Int,e=.returned (.int .i64 k)/\decide (k>=0)=badB M z/\Below w.heap.size w w'):=by
 have hl:=h.len;have HL:=lh9 hl;have HR:=lh9 h;have HK:=up9 w (λw' hb=>zad hb hk);have hEn:=en_of1;have hB:=Below.refl w.heap.size w;have HS:Hid (∀k,k<n->(M.take (k+1)).any (λL:List Rat=> !decide (((L.length:Nat):Int)=z))=((M.take k).any (λL:List Rat=> !decide (((L.length:Nat):Int)=z))||(λL:List Rat=> !decide (((L.length:Nat):Int)=z)) (M.getD k []))):=λk hk=>ziC (λL:List Rat=> !decide (((L.length:Nat):Int)=z)) M [] k om9;have HA:Hid (∀k,k<n->(λL:List Rat=> !decide (((L.length:Nat):Int)=z)) (M.getD k [])=true->M.any (λL:List Rat=> !decide (((L.length:Nat):Int)=z))=true):=λk hk=>any_at (λL:List Rat=> !decide (((L.length:Nat):Int)=z)) M [] k om9;have i0:(0:Int)<=(n:Int):=om9;clear h hk hl;unfold badB;go_enter func174,ntmps174;go_wp2_with fail
 go_loopg [8] (n+1) (λg ix wr=>∃(k:Nat),k<=n/\n<g+k/\ix=.int .i64 k/\Hid ((M.take k).any (λL:List Rat=> !decide (((L.length:Nat):Int)=z))=false)/\Below w.heap.size w wr)
 case atStart=>exact⟨0,Nat.zero_le _,om9,rfl,rfl,hB⟩
 case round=>
  clear hB;obtain⟨k,hkn,hg,rfl,j,hB⟩:=hrel;by_cases hlt:k<n
  ·have l:decide ((k:Int)<(n:Int))=true:=decide_eq_true om9;have i1:(0:Int)<=(k:Int):=om9;have i2:(k:Int)<(n:Int):=om9;have i:=lh9 (HS.out k hlt);have f:=lh9 (HA.out k hlt);obtain⟨ad,B,d,rfl,-,hc,-⟩:=HR.out.get (zaq zas) hB hlt rfl;obtain⟨L,hL⟩:∃L,M.getD k []=L:=⟨_,rfl⟩;rw [hL] at hc;rw [hL] at i f;obtain⟨b,c⟩:∃b,(!decide (((L.length:Nat):Int)=z))=b:=⟨_,rfl⟩;rw [c] at i f;have HC:∀W,Below w.heap.size w W->Hid (Calls prog 125 #[.slice B L.length d,.pointer (some ⟨gc,0,none⟩)] W (λe w'=>e=.returned (.bool b)/\Below W.heap.size W w')):=λW hW=>by
    have q:=zqa (V:=B) (cv:=d) (k:=L.length) (HK.out W hW);rw [c] at q;exact q
   have HB:=lh9 hB;clear hB hL;cases b
   ·go_wp2_with fail;refine(HC _ HB.out).out.mono ?_;rintro e w3 ⟨rfl,hb⟩;have HZ:Hid ((M.take (k+1)).any (λL:List Rat=> !decide (((L.length:Nat):Int)=z))=false):=by show _=_;rw [i.out,j.out];rfl
    have a:=lh9 (zac HB.out hb);clear hb c hc HC;go_wp2;go_roundg (n - k)
    case measure=>omega
    case rel=>exact⟨k+1,om9,om9,by go_num,HZ,a.out⟩
   ·go_wp2_with fail;refine(HC _ HB.out).out.mono ?_;rintro e w3 ⟨rfl,hb⟩;have HZ:=lh9 (f.out (by first|rfl|trivial));have a:=lh9 (zac HB.out hb);clear hb c hc HC;go_wp2;go_ret;exact⟨(k:Int),rfl,by rw [HZ.out];exact decide_eq_true om9,a.out⟩
  ·have l:decide ((k:Int)<(n:Int))=false:=decide_eq_false om9;have HF:Hid (M.any (λL:List Rat=> !decide (((L.length:Nat):Int)=z))=false):=by
    have h1:=j.out;rw [List.take_of_length_le (by have:=HL.out;omega)] at h1;exact h1
   have a:=lh9 hB;clear hB;go_wp2;go_ret;exact⟨-1,rfl,by rw [HF.out];rfl,a.out⟩
theorem zfo {gc q n:Nat}{Q:oA9}{M:List (List Rat)}{z:Int}{w:World}(h:zaJ (zaE zak) w Q n M)(hk:Blk w gc 3 #[.int .i64 z])(hn:n<=1048576):
  Calls prog 126 #[.slice Q n q,.func (.func 125) #[] #[.pointer (some ⟨gc,0,none⟩)]] w (λe w'=>e=.returned (.bool (badB M z))/\Below w.heap.size w w'):=by
 have H:=lh9 (zlk (q:=q) h hk hn);obtain⟨b,hb⟩:∃b,badB M z=b:=⟨_,rfl⟩;rw [hb] at H⊢;clear h hk hb;go_enter func126,ntmps126;go_wp2_with fail;refine H.out.mono ?_;rintro e w1 ⟨k,rfl,hk,hb⟩;have hk2:decide (0<=k)=b:=hk;have HB:=lh9 hb;clear hb;go_wp2;go_ret;exact⟨rfl,HB.out⟩
theorem zjM {gc q n m:Nat}{Q A:oA9}{n9 c9:Nat}{zs:List Int}{w:World}(h:zdj w Q n zs)(hk:Blk w gc 32 #[.slice A n9 c9,.int .i64 (m:Int)])(hn:n<=1048576):
  Calls prog 175 #[.slice Q n q,.func (.func 128) #[] #[.pointer (some ⟨gc,0,none⟩)]] w (λe w'=>∃k:Int,e=.returned (.int .i64 k)/\decide (k>=0)=zee zs m/\Below w.heap.size w w'):=by
 have hl:=h.len;have HL:=lh9 hl;have HR:=lh9 h;have HK:=up9 w (λw' hb=>zad hb hk);have hEn:=en_pick1;have hB:=Below.refl w.heap.size w;have HS:Hid (∀k,k<n->(zs.take (k+1)).any (λz:Int=> !inB z m)=((zs.take k).any (λz:Int=> !inB z m)||(λz:Int=> !inB z m) (zs.getD k 0))):=λk hk=>ziC (λz:Int=> !inB z m) zs 0 k om9;have HA:Hid (∀k,k<n->(λz:Int=> !inB z m) (zs.getD k 0)=true->zs.any (λz:Int=> !inB z m)=true):=λk hk=>any_at (λz:Int=> !inB z m) zs 0 k om9;have i0:(0:Int)<=(n:Int):=om9;clear h hk hl;unfold zee;go_enter func175,ntmps175;go_wp2_with fail
 go_loopg [8] (n+1) (λg ix wr=>∃(k:Nat),k<=n/\n<g+k/\ix=.int .i64 k/\Hid ((zs.take k).any (λz:Int=> !inB z m)=false)/\Below w.heap.size w wr)
 case atStart=>exact⟨0,Nat.zero_le _,om9,rfl,rfl,hB⟩
 case round=>
  clear hB;obtain⟨k,hkn,hg,rfl,i,hB⟩:=hrel;by_cases hlt:k<n
  ·have j:decide ((k:Int)<(n:Int))=true:=decide_eq_true om9;have i1:(0:Int)<=(k:Int):=om9;have i2:(k:Int)<(n:Int):=om9;have f:=lh9 (HS.out k hlt);have d:=lh9 (HA.out k hlt);obtain⟨ad,rfl,hc⟩:=HR.out.num k hlt;have hc:=zae hB hc;obtain⟨L,hL⟩:∃L,zs.getD k 0=L:=⟨_,rfl⟩;rw [hL] at hc;rw [hL] at f d;obtain⟨b,c⟩:∃b,(!inB L m)=b:=⟨_,rfl⟩;rw [c] at f d;have HC:∀W,Below w.heap.size w W->Hid (Calls prog 128 #[.int .i64 L,.pointer (some ⟨gc,0,none⟩)] W (λe w'=>e=.returned (.bool b)/\Below W.heap.size W w')):=λW hW=>by
    have q:=znV (z:=L) (HK.out W hW);rw [c] at q;exact q
   have HB:=lh9 hB;clear hB hL;cases b
   ·go_wp2_with fail;refine(HC _ HB.out).out.mono ?_;rintro e w3 ⟨rfl,hb⟩;have HZ:Hid ((zs.take (k+1)).any (λz:Int=> !inB z m)=false):=by show _=_;rw [f.out,i.out];rfl
    have a:=lh9 (zac HB.out hb);clear hb c hc HC;go_wp2;go_roundg (n - k)
    case measure=>omega
    case rel=>exact⟨k+1,om9,om9,by go_num,HZ,a.out⟩
   ·go_wp2_with fail;refine(HC _ HB.out).out.mono ?_;rintro e w3 ⟨rfl,hb⟩;have HZ:=lh9 (d.out (by first|rfl|trivial));have a:=lh9 (zac HB.out hb);clear hb c hc HC;go_wp2;go_ret;exact⟨(k:Int),rfl,by rw [HZ.out];exact decide_eq_true om9,a.out⟩
  ·have j:decide ((k:Int)<(n:Int))=false:=decide_eq_false om9;have HF:Hid (zs.any (λz:Int=> !inB z m)=false):=by
    have h1:=i.out;rw [List.take_of_length_le (by have:=HL.out;omega)] at h1;exact h1
   have a:=lh9 hB;clear hB;go_wp2;go_ret;exact⟨-1,rfl,by rw [HF.out];rfl,a.out⟩
theorem zeF {gc q n m:Nat}{Q A:oA9}{n9 c9:Nat}{zs:List Int}{w:World}(h:zdj w Q n zs)(hk:Blk w gc 32 #[.slice A n9 c9,.int .i64 (m:Int)])(hn:n<=1048576):
  Calls prog 129 #[.slice Q n q,.func (.func 128) #[] #[.pointer (some ⟨gc,0,none⟩)]] w (λe w'=>e=.returned (.bool (zee zs m))/\Below w.heap.size w w'):=by
 have H:=lh9 (zjM (q:=q) h hk hn);obtain⟨b,hb⟩:∃b,zee zs m=b:=⟨_,rfl⟩;rw [hb] at H⊢;clear h hk hb;go_enter func129,ntmps129;go_wp2_with fail;refine H.out.mono ?_;rintro e w1 ⟨k,rfl,hk,hb⟩;have hk2:decide (0<=k)=b:=hk;have HB:=lh9 hb;clear hb;go_wp2;go_ret;exact⟨rfl,HB.out⟩
section
variable {Q:oA9}{n q:Nat}{M:List (List Rat)}{z:Int}{w:World}
theorem zqy (h:zaJ (zaE zak) w Q n M)(hn:n<=1048576)(i:zfg (n:Int) z=false\/badB M z=true):Calls prog 57 #[.int .i64 z,.slice Q n q] w (zce w):=by
 have hmf:=zls;obtain⟨a,b,d,c,bz⟩:=zbs w 3 30 32 #[.int .i64 z] #[.slice Q n q] #[.slice none 0 0,.int .i64 0];have y0:=b.c1;have y1:=d.c1;by_cases hm:zfg (n:Int) z=true
 ·have hb:badB M z=true:=by
   rcases i with h1|h1
   ·rw [hm] at h1;cases h1
   ·exact h1
  have H:=λW=>lh9 (zfD hm W);have HC:=lh9 (zfo (q:=q) (h.below (zaq zas) a) b hn);rw [hb] at HC;have HK:=lh9 c;have HB:=lh9 a;clear h i a b d c bz hm hb;go_enter func57,ntmps57;go_wp2_with fail;refine(H _).out.mono ?_;rintro e w1 ⟨rfl,rfl⟩;go_wp2_with fail;refine HC.out.mono ?_;rintro e w1 ⟨rfl,hb⟩;have f:=zad hb HK.out;obtain⟨sc0,sf0,sc1,sf1⟩:=st2 f (.slice none 0 0);obtain⟨r0,r1⟩:=(sn2 f (.slice none 0 0) (.int .i64 0)).c2;have HG:=lh9 (gmn2 (g:=w.heap.size+1+1) (zac HB.out hb) om9);clear hb f HK HB y0 y1;go_wp2;refine bodyPost_ret (v:=.tuple #[.agg #[.slice none 0 0,.int .i64 0],.bool false]) (by simp [results,results57,go_sem,r0,r1]) rfl ?_;exact HG.out
 ·have H:=λW=>lh9 (zfD (by cases h:zfg (n:Int) z;rfl;exact absurd h hm) W);obtain⟨g0,g1⟩:=c.c2;have HB:=lh9 a;clear h i a b d c bz hm;go_enter func57,ntmps57;go_wp2_with fail;refine(H _).out.mono ?_;rintro e w1 ⟨rfl,rfl⟩;go_wp2;refine bodyPost_ret (v:=.tuple #[.agg #[.slice none 0 0,.int .i64 0],.bool false]) (by simp [results,results57,go_sem,g0,g1]) rfl ?_;exact⟨rfl,HB.out⟩
theorem zlv {m K:Nat}(hT:zam w)(h:zaJ (zaE zak) w Q n M)(hd:zbG M n m)(hn:n<=64)(hm:m<=64)(z:zay K M)(hK:K+2<=67108864:=by omega):Calls prog 57 #[.int .i64 (m:Int),.slice Q n q] w (zbM w n m M):=by
 have hmf:=zls;obtain⟨i,a,j,l,bz⟩:=zbs w 3 30 32 #[.int .i64 (m:Int)] #[.slice Q n q] #[.slice none 0 0,.int .i64 0];have H:=λW=>lh9 (zfD (zhf hn hm) W);have hc:=zfo (q:=q) (h.below (zaq zas) i) a om9;rw [dims_bad hd] at hc;have HC:=lh9 hc;have HM:Hid (∀W,Below w.heap.size w W->Blk W (w.heap.size+1) 30 #[.slice Q n q]->Calls prog 71 #[.int .i64 (n:Int),.int .i64 (m:Int),.func (.func 127) #[] #[.pointer (some ⟨w.heap.size+1,0,none⟩)]] W (zbw W n m M)):=λW hW hk=>by
  have hh:=h.below (zaq zas) hW;have q9:=zdG (K:=K) (atM M) 127 #[.pointer (some ⟨w.heap.size+1,0,none⟩)] n m W (hT.on hW) ⟨en_of2,λr c hr hc w' hb=>cl_of (hh.below (zaq zas) hb) hd (zad hb hk) hr hc⟩ (λr c hr hc=>z.at_ hd hr hc) hn hm hK;rw [hd.eq] at q9;exact q9
 have HK:=lh9 l;have HS:=lh9 j;have HB:=lh9 i;have y0:=a.c1;have y1:=j.c1;have hl0:=a.lt;have k:=lh9 a;clear i a j l bz hT h z hd hc;go_enter func57,ntmps57;go_wp2_with fail;refine(H _).out.mono ?_;rintro e w1 ⟨rfl,rfl⟩;go_wp2_with fail;refine HC.out.mono ?_;rintro e w1 ⟨rfl,hb⟩;have d:=lh9 (zac HB.out hb);have f:=lh9 (zad hb HK.out);have g:=lh9 (zad hb HS.out);have y0:=(zad hb k.out).c1;have y1:=g.out.c1;clear hb HB HK HS k HC H;go_wp2_with fail;refine(HM.out _ d.out g.out).mono ?_;clear y0 y1;rintro e w3 ⟨A3,c3,rfl,p,o,hb⟩;have b:=zad hb f.out;obtain⟨sc0,sf0,sc1,sf1⟩:=st2 b (.slice A3 n c3);obtain⟨r0,r1⟩:=(sn2 b (.slice A3 n c3) (.int .i64 (m:Int))).c2;have HG:=lh9 (gmb2 p (λad e=>Nat.lt_of_lt_of_le f.out.lt (o ad e)) b (zac d.out hb) om9);clear hb b p o f d HM g;go_wp2;refine bodyPost_ret (v:=.tuple #[.agg #[.slice A3 n c3,.int .i64 (m:Int)],.bool true]) (by simp [results,results57,go_sem,r0,r1]) rfl ?_;exact HG.out
end
theorem zjE (M:List (List Rat))(v:List Rat):(zcj M v).length=M.length:=by simp [zcj]
theorem zpf {M:List (List Rat)}{v:List Rat}{i:Nat}(h:i<M.length):(zcj M v)[i]?=some (zgY (M.getD i []) v):=by
 unfold zcj;rw [List.getElem?_map,List.getD_eq_getElem?_getD,List.getElem?_eq_getElem h];rfl
theorem znB {K K' k:Nat}{M:List (List Rat)}{v:List Rat}(z:zay K M)(zv:zaI K' v)(hd:∀L ∈ M,L.length=k)(hv:v.length=k):zaI (1+k*(K+K'+1)) (zcj M v):=λx hx=>by
 obtain⟨L,hL,rfl⟩:=List.mem_map.1 hx;exact dot_sz (hd L hL) hv (z L hL) zv
section
variable {K K':Nat}{w:World}
theorem zjc {n k q c:Nat}{Q A:oA9}{Ls:List (List Rat)}{xs:List Rat}(hT:zam w)(h:zaJ (zaE zak) w Q n Ls)(hd:∀L ∈ Ls,L.length=k)(hv:zaL w A k c xs)(z:zay K Ls)(zx:zaI K' xs)(hn:n<=64:=by omega)(hk:k<=64:=by omega)(hK:K<=67108864:=by omega)(E:K'<=67108864:=by omega)(hS:1+k*(K+K'+1)<=67108864:=by omega):
  Calls prog 112 #[.slice Q n q,.slice A k c] w (zft w n (zcj Ls xs)):=by
 have hl:=h.len;have HR:=lh9 h;have HV:=lh9 hv;have HT:=up9 w (λw' hb=>hT.on hb);have HZ:Hid (∀i,i<n->zaI K (Ls.getD i [])):=λi hi=>z.row om9;have HD:Hid (∀i,i<n->(Ls.getD i []).length=k):=λi hi=>hd _ (List.mem_of_getElem? (zcd om9));have HX:=lh9 zx;have l:Hid ((zcj Ls xs).length=n):=by show _=_;rw [zjE];exact hl
 have HG:Hid (∀i,i<n->(zcj Ls xs)[i]?=some (zgY (Ls.getD i []) xs)):=λi hi=>zpf om9;have D:=lh9 hS;obtain⟨ys,v⟩:∃ys,zcj Ls xs=ys:=⟨_,rfl⟩;rw [v] at l HG⊢;obtain⟨Z,hZ⟩:=zeL n om9;have H:=λW=>(hZ W).1;have f:=lh9 (λW=>(hZ W).2);clear hT h hd hv z zx hl v hZ hS;unfold zft;have i0:(0:Int)<=(n:Int):=om9;go_enter func112,ntmps112;go_wp2_with fail;clear H;have a:=f.out w;have hB:Below w.heap.size w (w.alloc (.cells Z 53)):=(Below.refl _ w).alloc (Nat.le_refl _) _;obtain⟨gp,r⟩:∃g,w.heap.size=g:=⟨_,rfl⟩;have u:w.heap.size<=gp:=om9;rw [r] at a⊢;rw [<-zbV 0 ys n] at a;generalize w.alloc (.cells Z 53)=W1 at*;clear r f
 go_loopg [13] (n+1) (λg ix wr=>∃(k:Nat),k<=n/\n<g+k/\ix=.int .i64 k/\zda wr gp n (zcy 0 ys n k)/\Below w.heap.size w wr)
 case atStart=>exact⟨0,Nat.zero_le _,om9,rfl,a,hB⟩
 case round=>
  clear a hB;obtain⟨i,hkn,hg,rfl,a,hB⟩:=hrel;by_cases hlt:i<n
  ·obtain⟨ad,B,d,rfl,-,hc,s⟩:=HR.out.get (zaq zas) hB hlt (HD.out i hlt);have F:decide ((i:Int)<(n:Int))=true:=decide_eq_true om9;have i1:(0:Int)<=(i:Int):=om9;have i2:(i:Int)<(n:Int):=om9;have j:=lh9 a;have p:=lh9 s;have b:=lh9 hB;clear s a hB;go_wp2_with fail;(with_reducible refine(vec_dot (HT.out _ b.out) p.out (HV.out.keep b.out) (HZ.out i hlt) HX.out om9 hK E D.out).mono ?_);rintro e w3 ⟨b3,A3,n3,c3,E3,k3,f3,rfl,t,hb⟩;clear hc;have m:=j.out.keep hb;have o:=zbI.set_ zas m hlt t;rw [zco 0 ys n i l.out hlt _ (HG.out i hlt)] at o;obtain⟨q0,q1,q2,sc0,sf0,sc1,sf1,sc2,sf2⟩:=m.ready hlt (.bool b3) (.slice A3 n3 c3);have y:=lh9 o;have x:=lh9 (zcB (i*3) (i*3+1) (i*3+2) (.bool b3) (.slice A3 n3 c3) (.slice E3 k3 f3) u (zac b.out hb));clear m o hb t j b p;go_wp2;go_roundg (n - i)
   case measure=>omega
   case rel=>exact⟨i+1,om9,om9,by go_num,y.out,x.out⟩
  ·have G:i=n:=om9;subst G;have F:decide ((i:Int)<(i:Int))=false:=si9;have C:=lh9 (zcn 0 ys i l.out▸a);have b:=lh9 hB;clear a hB;go_wp2;go_ret;exact⟨gp,rfl,u,C.out,b.out⟩
variable {A:oA9}{n c m:Nat}{MM:List (List Rat)}
theorem zov {j:Nat}(h:zaH w A n c m MM)(hj:j<m):
  Calls prog 168 #[.agg #[.slice A n c,.int .i64 (m:Int)],.int .i64 (j:Int)] w (zft w n (zcD n MM j)):=by
 obtain⟨hn,hm⟩:=And.intro h.hn h.hm;have HR:=λW=>lh9 (zbW A n c (m:Int) W);have HM:=lh9 h;have f:Hid ((zcD n MM j).length=n):=zcE n MM j;have HG:Hid (∀i,i<n->(zcD n MM j)[i]?=some (atM MM i j)):=λi hi=>by
  unfold zcD;rw [List.getElem?_map,List.getElem?_range hi];rfl
 obtain⟨ys,z⟩:∃ys,zcD n MM j=ys:=⟨_,rfl⟩;rw [z] at f HG⊢;obtain⟨Z,hZ⟩:=zeL n om9;have I:=λW=>(hZ W).1;have b:=lh9 (λW=>(hZ W).2);obtain⟨t,l,bz⟩:=zaD w 32 #[.slice A n c,.int .i64 (m:Int)];obtain⟨g0,g1⟩:=l.c2;have HB:=lh9 t;have HK:=lh9 l;clear h z hZ t l bz;unfold zft;have i0:(0:Int)<=(n:Int):=om9;go_enter func168,ntmps168;go_wp2_with fail;refine(HR _).out.mono ?_;rintro e w2 ⟨rfl,hb⟩;have s:=lh9 (zac HB.out hb);have p:=zad hb HK.out;have o:Below w2.heap.size w2 (w2.alloc (.cells Z 53)):=(Below.refl _ w2).alloc (Nat.le_refl _) _;have v:=zad o p;obtain⟨g0,g1⟩:=v.c2;have hsz:=p.lt;clear hb p v HK HB HR;go_wp2_with fail;clear I g0 g1;have a:=b.out w2;have hB:=zac s.out o;obtain⟨gp,u⟩:∃g,w2.heap.size=g:=⟨_,rfl⟩;have y:w.heap.size<=gp:=om9;rw [u] at a⊢;rw [<-zbV 0 ys n] at a;generalize w2.alloc (.cells Z 53)=W1 at*;clear u b s o hsz
 go_loopg [14] (n+1) (λg ix wr=>∃(k:Nat),k<=n/\n<g+k/\ix=.int .i64 k/\zda wr gp n (zcy 0 ys n k)/\Below w.heap.size w wr)
 case atStart=>exact⟨0,Nat.zero_le _,om9,rfl,a,hB⟩
 case round=>
  clear a hB;obtain⟨i,hkn,hg,rfl,a,hB⟩:=hrel;by_cases hlt:i<n
  ·obtain⟨ad,B,d,rfl,-,hc,ae,b3,A3,n3,c3,E3,k3,f3,rfl,-,h0,h1,h2,x⟩:=HM.out.place hB hlt hj;have G:decide ((i:Int)<(n:Int))=true:=decide_eq_true om9;have i1:(0:Int)<=(i:Int):=om9;have i2:(i:Int)<(n:Int):=om9;have i3:(0:Int)<=(j:Int):=om9;have i4:(j:Int)<(m:Int):=om9;have r:=zbI.set_ zas a hlt x;rw [zco 0 ys n i f.out hlt _ (HG.out i hlt)] at r;obtain⟨q0,q1,q2,sc0,sf0,sc1,sf1,sc2,sf2⟩:=a.ready hlt (.bool b3) (.slice A3 n3 c3);have E:=lh9 r;have D:=lh9 (zcB (i*3) (i*3+1) (i*3+2) (.bool b3) (.slice A3 n3 c3) (.slice E3 k3 f3) y hB);clear r x a hB;go_wp2;go_roundg (n - i)
   case measure=>omega
   case rel=>exact⟨i+1,om9,om9,by go_num,E.out,D.out⟩
  ·have H:i=n:=om9;subst H;have G:decide ((i:Int)<(i:Int))=false:=si9;have F:=lh9 (zcn 0 ys i f.out▸a);have C:=lh9 hB;clear a hB;go_wp2;go_ret;exact⟨gp,rfl,y,F.out,C.out⟩
def zjY (w:World)(n:Nat)(Ls:List (List Rat))(e:Ending)(w':World):Prop:=∃g,e=.returned (.slice (some ⟨g,0,none⟩) n n)/\w.heap.size<=g/\zbd (zaE zak) w' 71 g n Ls/\Below w.heap.size w w'
theorem zhU (h:zaH w A n c m MM):
  Calls prog 120 #[.agg #[.slice A n c,.int .i64 (m:Int)]] w (zjY w m (zba n m MM)):=by
 obtain⟨hn,hm⟩:=And.intro h.hn h.hm;have HM:=lh9 h;have l:Hid ((zba n m MM).length=m):=zhu _ _ _;have E:Hid (∀j,(zcD n MM j).length=n):=λj=>zcE n MM j;have HG:Hid (∀j,j<m->(zba n m MM)[j]?=some (zcD n MM j)):=λj hj=>zjC _ hj;obtain⟨ys,B⟩:∃ys,zba n m MM=ys:=⟨_,rfl⟩;rw [B] at l HG⊢;obtain⟨Y,hY⟩:=zkr m om9;have J:=λW=>(hY W).1;have d:=lh9 (λW=>(hY W).2);obtain⟨x,o,bz⟩:=zaD w 32 #[.slice A n c,.int .i64 (m:Int)];obtain⟨g0,g1⟩:=o.c2;have r:=(zaD (w.alloc (.cells #[.slice A n c,.int .i64 (m:Int)] 32)) 71 Y).1;have hK:=zad r o;have hB:=zac x r;clear h B hY x o r;unfold zjY;have i0:(0:Int)<=(m:Int):=om9;go_enter func120,ntmps120;go_wp2_with fail;clear J g0 g1;have a:=d.out (w.alloc (.cells #[.slice A n c,.int .i64 (m:Int)] 32));have e1:(w.alloc (.cells #[.slice A n c,.int .i64 (m:Int)] 32)).heap.size=w.heap.size+1:=si9;rw [e1] at a;rw [<-zbV [] ys m] at a;generalize (w.alloc (.cells #[.slice A n c,.int .i64 (m:Int)] 32)).alloc (.cells Y 71)=W1 at*;obtain⟨gb,y⟩:∃g,w.heap.size=g:=⟨_,rfl⟩;have hwg:w.heap.size<=gb:=om9;rw [y] at a hK⊢;clear e1 d y bz
 go_loopg [10] (m+1) (λg ix wr=>∃(k:Nat),k<=m/\m<g+k/\ix=.int .i64 k/\zbd (zaE zak) wr 71 (gb+1) m (zcy [] ys m k)/\Below w.heap.size w wr/\Blk wr gb 32 #[.slice A n c,.int .i64 (m:Int)])
 case atStart=>exact⟨0,Nat.zero_le _,om9,rfl,a,hB,hK⟩
 case round=>
  clear a hB hK;obtain⟨i,hkn,hg,rfl,a,hB,hK⟩:=hrel;by_cases hlt:i<m
  ·have H:decide ((i:Int)<(m:Int))=true:=decide_eq_true om9;have i1:(0:Int)<=(i:Int):=om9;have i2:(i:Int)<(m:Int):=om9;obtain⟨g0,g1⟩:=hK.c2;have f:=lh9 a;have b:=lh9 hB;have v:=lh9 hK;have u:=lh9 (HG.out i hlt);clear a hB hK;go_wp2_with fail;(with_reducible refine(zov (HM.out.keep b.out) hlt).mono ?_);rintro e w5 ⟨g5,rfl,hg5,z,hb⟩;clear g0 g1;have s:=f.out.below (zaq zas) hb;have t:=zbd.set_ (zaq zas) s hlt (zcq z) (E.out i);rw [zco [] ys m i l.out hlt _ u.out] at t;obtain⟨q0,sc0,sf0⟩:=s.ready hlt;have G:=lh9 t;have C:=lh9 (zag (p:=⟨gb+1,i,none⟩) (.slice (some ⟨g5,0,none⟩) n n) (show w.heap.size<=gb+1 by omega) (zac b.out hb));have D:=lh9 (Blk.far (p:=⟨gb+1,i,none⟩) (zad hb v.out) (by show gb≠gb+1;omega) (.slice (some ⟨g5,0,none⟩) n n));clear s t z hb f b v u;go_wp2;go_roundg (m - i)
   case measure=>omega
   case rel=>exact⟨i+1,om9,om9,by go_num,G.out,C.out,D.out⟩
  ·have I:i=m:=om9;subst I;have H:decide ((i:Int)<(i:Int))=false:=si9;have F:=lh9 (zcn [] ys i l.out▸a);have b:=lh9 hB;clear a hB hK;go_wp2;go_ret;exact⟨gb+1,rfl,om9,F.out,b.out⟩
variable {V:oA9}{k cv:Nat}{xs:List Rat}
theorem zqz (hT:zam w)(h:zaH w A n c m MM)(hv:zaL w V m cv xs)(z:zay K MM)(zx:zaI K' xs)(hK:K<=67108864:=by omega)(g:K'<=67108864:=by omega)(hS:1+m*(K+K'+1)<=67108864:=by omega):
  Calls prog 48 #[.agg #[.slice A n c,.int .i64 (m:Int)],.slice V m cv] w (zdA w n (zcj MM xs)):=by
 have e0:((m:Int) !=(m:Int))=false:=si9;obtain⟨a,b,bz⟩:=zaD w 32 #[.slice A n c,.int .i64 (m:Int)];obtain⟨g0,g1⟩:=b.c2;have HD:=lh9 (zjc (q:=c) (hT.on a) (h.keep a).rows h.dims.cols (hv.keep a) z zx h.hn h.hm hK g hS);have HB:=lh9 a;clear h a b bz hT hv z zx;unfold zdA;go_enter func48,ntmps48;go_wp2_with fail;refine HD.out.mono ?_;rintro e w5 ⟨g5,rfl,d,f,hb⟩;have HG:=lh9 (And.intro (Nat.le_trans HB.out.size d) (And.intro f (zac HB.out hb)));clear g0 g1 d f hb;go_wp2
 go_ret2
 exact⟨g5,rfl,HG.out⟩
theorem mat_by (hT:zam w)(h:zaH w A n c m MM)(hv:zaL w V n cv xs)(z:zay K MM)(zx:zaI K' xs)(hK:K<=67108864:=by omega)(k:K'<=67108864:=by omega)(hS:1+n*(K+K'+1)<=67108864:=by omega):
  Calls prog 59 #[.agg #[.slice A n c,.int .i64 (m:Int)],.slice V n cv] w (zdA w m (zcj (zba n m MM) xs)):=by
 have e0:((n:Int) !=(n:Int))=false:=si9;have HR:=λW=>lh9 (zbW A n c (m:Int) W);obtain⟨f,d,bz⟩:=zaD w 32 #[.slice A n c,.int .i64 (m:Int)];obtain⟨g0,g1⟩:=d.c2;have HC:=lh9 (λW (hb:Below w.heap.size w W)=>zhU (h.keep hb));have HD:=lh9 (λW (Q:oA9) (q:Nat) (hb:Below w.heap.size w W) (hr:zaJ (zaE zak) W Q m (zba n m MM))=>zjc (q:=q) (hT.on hb) hr (zbO n m MM).cols (hv.keep hb) (z.turn h.dims) zx h.hm h.hn hK k hS);have HB:=lh9 f;have HK:=lh9 d;clear h f d bz hT hv z zx;unfold zdA;go_enter func59,ntmps59;go_wp2_with fail;refine(HR _).out.mono ?_;rintro e w2 ⟨rfl,hb⟩;have a:=lh9 (zac HB.out hb);obtain⟨g0,g1⟩:=(zad hb HK.out).c2;clear hb HB;go_wp2_with fail;refine(HC.out _ a.out).mono ?_;rintro e w3 ⟨g3,rfl,hg3,i,hb⟩;have b:=lh9 (zac a.out hb);have HO:=lh9 i.rows;clear hb a i g0 g1;go_wp2_with fail;refine(HD.out _ _ _ b.out HO.out).mono ?_;rintro e w5 ⟨g5,rfl,g,j,hb⟩;have HG:=lh9 (And.intro (Nat.le_trans b.out.size g) (And.intro j (zac b.out hb)));clear g j hb;go_wp2
 go_ret2
 exact⟨g5,rfl,HG.out⟩
end
