/- What this claim leans on. -/
import Derived.Test.YtghpdeciaaagnaaGreatDoorQVTimes
namespace Go.Proofs.YtghpdeciaaagnaaGreatDoor
open Go Go.RowKit Go.Proofs.Tryz
set_option maxHeartbeats 16000000
set_option maxRecDepth 100000
set_option linter.unusedVariables false
set_option linter.unusedSimpArgs false
theorem gq0 {w w':World}{r:Rat}{b:Bool}{A E:oA9}{n c k f:Nat}(h:zaf w' r b A n c E k f)(hb:Below w.heap.size w w'):zaE w r (.returned (.agg #[.bool b,.slice A n c,.slice E k f])) w':=⟨_,_,_,_,_,_,_,rfl,h,hb⟩
section
variable {A:oA9}{n c m:Nat}{M:List (List Rat)}{w:World}
theorem en_one1:∀(args:Array Value) (w':World),Sem.run prog (callFunc 95 args) w'=.ok (.enter 95 args) w':=Go.Proofs.enters_of func95 kr9 rfl
theorem cl_one (hT:zai w)(i j:Nat):Calls prog 95 #[.int .i64 (i:Int),.int .i64 (j:Int)] w (zaE w (if i=j then 1 else 0)):=by
 obtain⟨a,b,bz⟩:=zax w 41 #[.bool false,.slice none 0 0,.slice none 0 0];by_cases hij:i=j
 ·have e0:((i:Int)==(j:Int))=true:=by rw [beq_iff_eq];omega
  rw [if_pos hij];have HT:=lh9 (hT.on a);have HB:=lh9 a;have HK:=lh9 b;clear hij a b bz hT;go_enter func95,ntmps95;go_wp2_with fail;(with_reducible refine(zgt 1 _ HT.out de9 de9).mono ?_);rintro e w3 ⟨b3,A3,n3,c3,E3,k3,f3,rfl,d,hb⟩;have c:=zab hb HK.out;obtain⟨sc0,sf0,sc1,sf1,sc2,sf2⟩:=st3 c (.bool b3) (.slice A3 n3 c3);obtain⟨r0,r1,r2⟩:=(sn3 c (.bool b3) (.slice A3 n3 c3) (.slice E3 k3 f3)).c3;have HG:Hid (zaE w 1 _ _):=gq3 (r:=1) d c (zaa HB.out hb) (Nat.le_refl _);clear hb c d HB HK HT;go_wp2;refine bodyPost_ret (v:=.agg #[.bool b3,.slice A3 n3 c3,.slice E3 k3 f3]) (by simp [results,results95,go_sem,r0,r1,r2]) rfl ?_;exact HG.out
 ·have e0:((i:Int)==(j:Int))=false:=by rw [beq_eq_false_iff_ne];omega
  rw [if_neg hij];obtain⟨r0,r1,r2⟩:=b.c3;have HG:=lh9 (gq0 (zfr _) a);clear a b bz hij;go_enter func95,ntmps95;go_wp2;refine bodyPost_ret (v:=.agg #[.bool false,.slice none 0 0,.slice none 0 0]) (by simp [results,results95,go_sem,r0,r1,r2]) rfl ?_;exact HG.out
theorem en_of2:∀(args:Array Value) (w':World),Sem.run prog (callFunc 130 args) w'=.ok (.enter 130 args) w':=Go.Proofs.enters_of func130 kr9 rfl
theorem cl_of {gs i j:Nat}{Q:oA9}{q:Nat}(h:zaC (zaM zaf) w Q n M)(hd:zaY M n m)(hk:Blk w gs 26 #[.slice Q n q])(hi:i<n)(hj:j<m):Calls prog 130 #[.int .i64 (i:Int),.int .i64 (j:Int),.pointer (some ⟨gs,0,none⟩)] w (zaE w (atM M i j)):=by
 obtain⟨a,f,bz⟩:=zax w 41 #[.bool false,.slice none 0 0,.slice none 0 0];obtain⟨ad,B,d,rfl,-,hc,hv⟩:=h.get (zaA zak) (Below.refl _ w) hi (hd.row hi);obtain⟨ae,b1,B1,m1,d1,E1,u1,v1,rfl,-,h0,h1,h2,hq⟩:=zaH.get hv (Below.refl _ w) hj;obtain⟨hc,h0,h1,h2⟩:=zac4 a hc h0 h1 h2;have g0:=(zab a hk).c1;have i1:(0:Int)<=(i:Int):=om9;have i2:(i:Int)<(n:Int):=om9;have i3:(0:Int)<=(j:Int):=om9;have i4:(j:Int)<(m:Int):=om9;obtain⟨b,c,-⟩:=zax w 41 #[.bool b1,.slice B1 m1 d1,.slice E1 u1 v1];obtain⟨r0,r1,r2⟩:=c.c3;have HG:=lh9 (gq0 (hq.below b) b);clear hq a f bz b c h hk hv hd;go_enter func130,ntmps130;go_wp2;refine bodyPost_ret (v:=.agg #[.bool b1,.slice B1 m1 d1,.slice E1 u1 v1]) (by simp [results,results130,go_sem,r0,r1,r2]) rfl ?_;exact HG.out
theorem en_of1:∀(args:Array Value) (w':World),Sem.run prog (callFunc 128 args) w'=.ok (.enter 128 args) w':=Go.Proofs.enters_of func128 kr9 rfl
theorem zqf {gc k:Nat}{V:oA9}{cv:Nat}{z:Int}(hk:Blk w gc 3 #[.int .i64 z]):Calls prog 128 #[.slice V k cv,.pointer (some ⟨gc,0,none⟩)] w (λe w'=>e=.returned (.bool (!decide ((k:Int)=z)))/\Below w.heap.size w w'):=by
 have g0:=hk.c1;obtain⟨b,hb⟩:∃b,(!decide ((k:Int)=z))=b:=⟨_,rfl⟩;have hb2:((k:Int) !=z)=b:=by rw [<-hb];by_cases q:(k:Int)=z<;>simp [q]
 rw [hb];clear hk hb;go_enter func128,ntmps128;go_wp2;go_ret;exact⟨rfl,Below.refl _ _⟩
end
theorem may_of {r c:Int}{b:Bool}(h:ziA r c=b)(w:World):Calls prog 93 #[.int .i64 r,.int .i64 c] w (λe w'=>e=.returned (.bool b)/\w=w'):=h▸mat_may r c w
theorem zoD (fn:Fn)(first cap:Array Value)(w:World):(Instr.makeFunc fn first cap).run prog w=.ok (.func fn first cap) w:=rfl
theorem sz_one:SzQ 1 (1:Rat):=⟨de9,de9⟩
theorem one_sz (r c:Nat):SzQ 1 (if r=c then(1:Rat) else 0):=by split<;>first|exact sz_one|exact SzQ.zero
theorem mat_one {n:Nat}{w:World}(hT:zai w)(hn:n<=64):Calls prog 33 #[.int .i64 (n:Int)] w (zgj w n n (oneM n)):=by
 have H:=λW=>lh9 (may_of (znb hn hn) W);obtain⟨a,d,bz⟩:=zax w 28 #[.slice none 0 0,.int .i64 0];have HM:Hid (Calls _ _ _ _ (zcr _ n n (oneM n))):=zna (K:=1) (λr c=>if r=c then 1 else 0) 95 #[] n n _ (hT.on a) ⟨en_one1,λr c _ _ w' hb=>cl_one ((hT.on a).on hb) r c⟩ (λr c _ _=>one_sz r c) hn hn;have HK:=lh9 d;have HB:=lh9 a;clear a d bz hT;go_enter func33,ntmps33;go_wp2_with fail;refine(H _).out.mono ?_;rintro e w1 ⟨rfl,rfl⟩;go_wp2_with fail;refine HM.out.mono ?_;rintro e w3 ⟨A3,c3,rfl,g,f,hb⟩;have b:=zab hb HK.out;obtain⟨sc0,sf0,sc1,sf1⟩:=st2 b (.slice A3 n c3);obtain⟨r0,r1⟩:=(sn2 b (.slice A3 n c3) (.int .i64 (n:Int))).c2;have HG:=lh9 (gmb2 g (λad e=>Nat.lt_of_lt_of_le HK.out.lt (f ad e)) b (zaa HB.out hb) om9);clear hb b g f HK HB;go_wp2;refine bodyPost_ret (v:=.tuple #[.agg #[.slice A3 n c3,.int .i64 (n:Int)],.bool true]) (by simp [results,results33,go_sem,r0,r1]) rfl ?_;exact HG.out
section
variable {A:oA9}{n c m K:Nat}{MM:List (List Rat)}{w:World}
end
def badB (M:List (List Rat))(z:Int):Bool:=M.any λL=> !decide (((L.length:Nat):Int)=z)
theorem any_succ {α:Type}(p:α->Bool)(xs:List α)(d:α)(k:Nat)(h:k<xs.length):(xs.take (k+1)).any p=((xs.take k).any p||p (xs.getD k d)):=by
 rw [List.take_succ_eq_append_getElem h,List.any_append,List.getD_eq_getElem?_getD,List.getElem?_eq_getElem h];simp
theorem any_at {α:Type}(p:α->Bool)(xs:List α)(d:α)(k:Nat)(h:k<xs.length)(hp:p (xs.getD k d)=true):xs.any p=true:=by
 refine List.any_eq_true.2 ⟨xs.getD k d,?_,hp⟩;rw [List.getD_eq_getElem?_getD,List.getElem?_eq_getElem h];exact List.getElem_mem h
theorem dims_bad {M:List (List Rat)}{n m:Nat}(h:zaY M n m):badB M (m:Int)=false:=by
 unfold badB;refine List.any_eq_false.2 λL hL=>?_;have:=h.cols L hL;simp;omega
theorem zlw {gc q n:Nat}{Q:oA9}{M:List (List Rat)}{z:Int}{w:World}(h:zaC (zaM zaf) w Q n M)(hk:Blk w gc 3 #[.int .i64 z])(hn:n<=1048576):
  Calls prog 167 #[.slice Q n q,.func (.func 128) #[] #[.pointer (some ⟨gc,0,none⟩)]] w (λe w'=>∃k:Int,e=.returned (.int .i64 k)/\decide (k>=0)=badB M z/\Below w.heap.size w w'):=by
 have hl:=h.len;have HL:=lh9 hl;have HR:=lh9 h;have HK:=up9 w (λw' hb=>zab hb hk);have hEn:=en_of1;have hB:=Below.refl w.heap.size w;have HS:Hid (∀k,k<n->(M.take (k+1)).any (λL:List Rat=> !decide (((L.length:Nat):Int)=z))=((M.take k).any (λL:List Rat=> !decide (((L.length:Nat):Int)=z))||(λL:List Rat=> !decide (((L.length:Nat):Int)=z)) (M.getD k []))):=λk hk=>any_succ (λL:List Rat=> !decide (((L.length:Nat):Int)=z)) M [] k om9;have HA:Hid (∀k,k<n->(λL:List Rat=> !decide (((L.length:Nat):Int)=z)) (M.getD k [])=true->M.any (λL:List Rat=> !decide (((L.length:Nat):Int)=z))=true):=λk hk=>any_at (λL:List Rat=> !decide (((L.length:Nat):Int)=z)) M [] k om9;have i0:(0:Int)<=(n:Int):=om9;clear h hk hl;unfold badB;go_enter func167,ntmps167;go_wp2_with fail
 go_loopg [8] (n+1) (λg ix wr=>∃(k:Nat),k<=n/\n<g+k/\ix=.int .i64 k/\Hid ((M.take k).any (λL:List Rat=> !decide (((L.length:Nat):Int)=z))=false)/\Below w.heap.size w wr)
 case atStart=>exact⟨0,Nat.zero_le _,om9,rfl,rfl,hB⟩
 case round=>
  clear hB;obtain⟨k,hkn,hg,rfl,j,hB⟩:=hrel;by_cases hlt:k<n
  ·have l:decide ((k:Int)<(n:Int))=true:=decide_eq_true om9;have i1:(0:Int)<=(k:Int):=om9;have i2:(k:Int)<(n:Int):=om9;have i:=lh9 (HS.out k hlt);have f:=lh9 (HA.out k hlt);obtain⟨ad,B,d,rfl,-,hc,-⟩:=HR.out.get (zaA zak) hB hlt rfl;obtain⟨L,hL⟩:∃L,M.getD k []=L:=⟨_,rfl⟩;rw [hL] at hc;rw [hL] at i f;obtain⟨b,c⟩:∃b,(!decide (((L.length:Nat):Int)=z))=b:=⟨_,rfl⟩;rw [c] at i f;have HC:∀W,Below w.heap.size w W->Hid (Calls prog 128 #[.slice B L.length d,.pointer (some ⟨gc,0,none⟩)] W (λe w'=>e=.returned (.bool b)/\Below W.heap.size W w')):=λW hW=>by
    have q:=zqf (V:=B) (cv:=d) (k:=L.length) (HK.out W hW);rw [c] at q;exact q
   have HB:=lh9 hB;clear hB hL;cases b
   ·go_wp2_with fail;refine(HC _ HB.out).out.mono ?_;rintro e w3 ⟨rfl,hb⟩;have HZ:Hid ((M.take (k+1)).any (λL:List Rat=> !decide (((L.length:Nat):Int)=z))=false):=by show _=_;rw [i.out,j.out];rfl
    have a:=lh9 (zaa HB.out hb);clear hb c hc HC;go_wp2;go_roundg (n - k)
    case measure=>omega
    case rel=>exact⟨k+1,om9,om9,by go_num,HZ,a.out⟩
   ·go_wp2_with fail;refine(HC _ HB.out).out.mono ?_;rintro e w3 ⟨rfl,hb⟩;have HZ:=lh9 (f.out (by first|rfl|trivial));have a:=lh9 (zaa HB.out hb);clear hb c hc HC;go_wp2;go_ret;exact⟨(k:Int),rfl,by rw [HZ.out];exact decide_eq_true om9,a.out⟩
  ·have l:decide ((k:Int)<(n:Int))=false:=decide_eq_false om9;have HF:Hid (M.any (λL:List Rat=> !decide (((L.length:Nat):Int)=z))=false):=by
    have h1:=j.out;rw [List.take_of_length_le (by have:=HL.out;omega)] at h1;exact h1
   have a:=lh9 hB;clear hB;go_wp2;go_ret;exact⟨-1,rfl,by rw [HF.out];rfl,a.out⟩
theorem ziz {gc q n:Nat}{Q:oA9}{M:List (List Rat)}{z:Int}{w:World}(h:zaC (zaM zaf) w Q n M)(hk:Blk w gc 3 #[.int .i64 z])(hn:n<=1048576):
  Calls prog 129 #[.slice Q n q,.func (.func 128) #[] #[.pointer (some ⟨gc,0,none⟩)]] w (λe w'=>e=.returned (.bool (badB M z))/\Below w.heap.size w w'):=by
 have H:=lh9 (zlw (q:=q) h hk hn);obtain⟨b,hb⟩:∃b,badB M z=b:=⟨_,rfl⟩;rw [hb] at H⊢;clear h hk hb;go_enter func129,ntmps129;go_wp2_with fail;refine H.out.mono ?_;rintro e w1 ⟨k,rfl,hk,hb⟩;have hk2:decide (0<=k)=b:=hk;have HB:=lh9 hb;clear hb;go_wp2;go_ret;exact⟨rfl,HB.out⟩
section
variable {Q:oA9}{n q:Nat}{M:List (List Rat)}{z:Int}{w:World}
theorem zoE {m K:Nat}(hT:zai w)(h:zaC (zaM zaf) w Q n M)(hd:zaY M n m)(hn:n<=64)(hm:m<=64)(z:zaO K M)(hK:K+2<=67108864:=by omega):Calls prog 59 #[.int .i64 (m:Int),.slice Q n q] w (zgj w n m M):=by
 have hmf:=zoD;obtain⟨i,a,j,l,bz⟩:=zbT w 3 26 28 #[.int .i64 (m:Int)] #[.slice Q n q] #[.slice none 0 0,.int .i64 0];have H:=λW=>lh9 (may_of (znb hn hm) W);have hc:=ziz (q:=q) (h.below (zaA zak) i) a om9;rw [dims_bad hd] at hc;have HC:=lh9 hc;have HM:Hid (∀W,Below w.heap.size w W->Blk W (w.heap.size+1) 26 #[.slice Q n q]->Calls prog 94 #[.int .i64 (n:Int),.int .i64 (m:Int),.func (.func 130) #[] #[.pointer (some ⟨w.heap.size+1,0,none⟩)]] W (zcr W n m M)):=λW hW hk=>by
  have hh:=h.below (zaA zak) hW;have q9:=zna (K:=K) (atM M) 130 #[.pointer (some ⟨w.heap.size+1,0,none⟩)] n m W (hT.on hW) ⟨en_of2,λr c hr hc w' hb=>cl_of (hh.below (zaA zak) hb) hd (zab hb hk) hr hc⟩ (λr c hr hc=>z.at_ hd hr hc) hn hm hK;rw [hd.eq] at q9;exact q9
 have HK:=lh9 l;have HS:=lh9 j;have HB:=lh9 i;have y0:=a.c1;have y1:=j.c1;have hl0:=a.lt;have k:=lh9 a;clear i a j l bz hT h z hd hc;go_enter func59,ntmps59;go_wp2_with fail;refine(H _).out.mono ?_;rintro e w1 ⟨rfl,rfl⟩;go_wp2_with fail;refine HC.out.mono ?_;rintro e w1 ⟨rfl,hb⟩;have d:=lh9 (zaa HB.out hb);have f:=lh9 (zab hb HK.out);have g:=lh9 (zab hb HS.out);have y0:=(zab hb k.out).c1;have y1:=g.out.c1;clear hb HB HK HS k HC H;go_wp2_with fail;refine(HM.out _ d.out g.out).mono ?_;clear y0 y1;rintro e w3 ⟨A3,c3,rfl,s,o,hb⟩;have b:=zab hb f.out;obtain⟨sc0,sf0,sc1,sf1⟩:=st2 b (.slice A3 n c3);obtain⟨r0,r1⟩:=(sn2 b (.slice A3 n c3) (.int .i64 (m:Int))).c2;have HG:=lh9 (gmb2 s (λad e=>Nat.lt_of_lt_of_le f.out.lt (o ad e)) b (zaa d.out hb) om9);clear hb b s o f d HM g;go_wp2;refine bodyPost_ret (v:=.tuple #[.agg #[.slice A3 n c3,.int .i64 (m:Int)],.bool true]) (by simp [results,results59,go_sem,r0,r1]) rfl ?_;exact HG.out
end
def zfK (Pc:Value->Prop)(w:World)(v:Value):Prop:=∀g,v.ownBlock=some g->∃(cur:Array Value) (e:TypeId),w.heap[g]?=some (.cells cur e (0,0))/\∀u ∈ cur.toList,Pc u
theorem zfK.nil {Pc:Value->Prop}(w:World)(c:Nat):zfK Pc w (.slice none 0 c):=λg h=>by simp [Value.ownBlock] at h
section
variable {P:Program}{Pc:Value->Prop}(w:World)
theorem zkj (h:Nat)(t ty e:TypeId)(i:TypeInfo)(z:Value)(size bytes:Nat)(ht:P.underlying t=some (.slice e))(hi:P.info? e=some i)(hz:i.zero=some z)
  (F:i.size=size) (M:i.bytes=bytes) (Q:z.cells.size=size) (hsz:0<size)
  (v:Value) (n:Nat) (xs:List Value) (f:w.ownsRow h e size v n xs)
  (a:Addr) (m c:Nat) (b:List Value) (hl:b.length=m*size) (r:∀j u,b[j]?=some u->w.cell? (a.add j)=some u) (h1:∀u ∈ b,u.oneCell'=true)
  (H:n+m<=maxLen) (s:(n+m)*bytes<=140737488355328) (B:h<=w.heap.size)
  (hv:zfK Pc w v) (O:∀u ∈ z.cells.toList,Pc u) (L:∀u ∈ b,Pc u):
  ∃ v' w',(Builtin.append_ #[t,t] ty #[v,.slice (some a) m c]).run P w = .ok v' w' ∧ w'.ownsRow h e size v' (n + m) (xs ++ b) ∧ w.grownBy w' v.ownBlock ∧
   (v'.ownBlock=v.ownBlock\/v'.ownBlock=some w.heap.size)/\zfK Pc w' v':=by
 subst F;subst M;have hsmall:n+m<=9223372036854775807:=by simp only [maxLen] at H;omega
 have y:(xs++b).length=(n+m)*i.size:=by rw [List.length_append,f.1,hl,Nat.add_mul]
 have grown : ∀ (d : Nat),d < n + m → (∀ u ∈ xs,Pc u) → ∀ (row : Option Nat),
   (w.drew.alloc (.cells (xs.toArray ++ b.toArray ++ Builtin.zeroCells z.cells (grownCap w (n + m) d e - (n + m))) e)).ownsRow h e i.size
     (.slice (some ⟨w.heap.size,0,none⟩) (n+m) (grownCap w (n+m) d e)) (n+m) (xs++b)/\
   w.grownBy (w.drew.alloc (.cells (xs.toArray++b.toArray++Builtin.zeroCells z.cells (grownCap w (n+m) d e - (n+m))) e)) row/\
   zfK Pc (w.drew.alloc (.cells (xs.toArray++b.toArray++Builtin.zeroCells z.cells (grownCap w (n+m) d e - (n+m))) e)) (.slice (some ⟨w.heap.size,0,none⟩) (n+m) (grownCap w (n+m) d e)):=by
  intro d ho G row;have N:=grownCap_ge w (n+m) d e;have C:grownCap w (n+m) d e<=maxLen:=grownCap_le_maxLen w (n+m) d e H;refine⟨⟨y,.inr ⟨w.heap.size,_,_,rfl,B,heap_alloc_new w.drew _,N,C,?_,?_⟩⟩,⟨rfl,rfl,rfl,si9,λk hk _=>heap_alloc_old w.drew _ hk⟩,?_⟩
  ·simp only [Array.size_append,List.size_toArray,size_zeroCells,Q,f.1,hl,<-Nat.add_mul];congr 1;omega
  ·simp only [Array.toList_append,List.append_assoc];rw [<-List.append_assoc,<-y];exact List.take_left
  ·intro g hg;simp [Value.ownBlock] at hg;subst hg;refine⟨_,_,heap_alloc_new w.drew _,λu hu=>?_⟩;simp only [Array.toList_append,List.mem_append] at hu;rcases hu with(hu|hu)|hu
   ·exact G u hu
   ·exact L u hu
   ·exact O u (zgi om9 hu)
 rcases f.2 with⟨rfl,rfl⟩|⟨g,cap,cur,rfl,hbg,hg,hnc,C,hcs,htake⟩
 ·have hx:xs=[]:=List.eq_nil_of_length_eq_zero (by simpa using f.1);subst hx;by_cases hm:m=0
  ·subst hm;have hn:b=[]:=List.eq_nil_of_length_eq_zero (by simpa using hl);subst hn;refine⟨.slice none 0 0,w,?_,World.ownsRow_nil w h e i.size,⟨rfl,rfl,rfl,Nat.le_refl _,λ_ _ _=>rfl⟩,Or.inl rfl,zfK.nil _ _⟩;simp [Builtin.append_,run_underlying ht,sizeOf,typeInfo,hi,Builtin.lenOf,Builtin.firstCells,loadCells,loadCellsFrom]
  ·have hr:=run_append_nil (P:=P) w t ty e i z ht hi hz a m c b hl r om9 om9 (by have hb:=s;simp only [Nat.zero_add] at hb;omega);have o:=grown 0 om9 (λu hu=>by cases hu) (Value.ownBlock (.slice none 0 0));simp only [Nat.zero_add,List.nil_append,Array.empty_append] at o⊢;exact⟨_,_,hr,o.1,o.2.1,Or.inr rfl,o.2.2⟩
 ·obtain⟨l,e2,A,D⟩:=hv g rfl;have I:l=cur:=by
   rw [hg] at A;injection A with A;injection A with A;exact A.symm
  subst I;by_cases hroom:n+m<=cap
  ·have J:n*i.size+b.length<=l.size:=by rw [hl,hcs,<-Nat.add_mul];exact Nat.mul_le_mul_right _ hroom
   have hr:=run_append_room (P:=P) w t ty e i ht hi g n cap l hg a m c b hl r h1 hroom J;refine⟨_,_,hr,⟨y,.inr ⟨g,cap,_,rfl,hbg,setRow_heap w g l _ e _ hg,hroom,C,?_,?_⟩⟩,⟨rfl,rfl,rfl,si9,λk _ hk=>setRow_other w g k _ (λe=>hk (by simp [Value.ownBlock,e]))⟩,Or.inl rfl,?_⟩
   ·simp only [List.size_toArray,List.length_append,List.length_take,List.length_drop,Array.length_toList];omega
   ·rw [htake,<-y];exact List.take_left
   ·intro g' K;simp [Value.ownBlock] at K;subst K;refine⟨_,_,setRow_heap w g l _ e _ hg,λu hu=>?_⟩;rw [List.mem_append,List.mem_append] at hu;rcases hu with(hu|hu)|hu
    ·exact D u (List.mem_of_mem_take hu)
    ·exact L u hu
    ·exact D u (List.mem_of_mem_drop hu)
  ·have E:∀j u,xs[j]?=some u->w.cell? ((⟨g,0,none⟩:Addr).add j)=some u:=f.cells (g:=g) rfl;have hr:=run_append_grow (P:=P) w t ty e i z ht hi hz ⟨g,0,none⟩ n cap xs f.1 E a m c b hl r om9 om9 (growslice_fits om9 s);have G:∀u ∈ xs,Pc u:=λu hu=>D u (List.mem_of_mem_take (by rw [htake];exact hu));have o:=grown cap om9 G (Value.ownBlock (.slice (some ⟨g,0,none⟩) n cap));exact⟨_,_,hr,o.1,o.2.1,Or.inr rfl,o.2.2⟩
end
def VZ (z:Nat):RP Rat:=λw A n c xs=>zaH w A n c xs/\∀ad,A=some ad->z<ad.block
theorem vz_rs (z:Nat):zcf (VZ z) where
 len h:=h.1.len
 below h hb:=⟨h.1.keep hb,h.2⟩
 offS h hk hs ho:=⟨zhz zak h.1 hk hs ho,h.2⟩
 nil w:=⟨zaM.nil w,λad e=>by cases e⟩
theorem vec_offN {w w':World}{A:oA9}{n c g:Nat}{xs:List Rat}{t:TypeId}{cs:Array Value}(h:zaH w A n c xs)(f:∀ad,A=some ad->ad.block≠g)(hk:Blk w g t cs)(a:NoK .u64 cs)(ho:zaV g w w'):zaH w' A n c xs:=by
 refine⟨h.len,h.fits,h.most,λi x hi=>?_⟩;obtain⟨ad,b,B,m,d,F,u,v,e,h1,h2,h3,h4,h5⟩:=h.num i x hi;have hc:∀j,w'.cell? (ad.add j)=w.cell? (ad.add j):=λj=>ho.2 _ (by rw [zah];exact h1) (by rw [zah];exact f ad e);exact⟨ad,b,B,m,d,F,u,v,e,Nat.lt_of_lt_of_le h1 ho.1,(hc _).trans h2,(hc _).trans h3,(hc _).trans h4,zaz hk a ho h5⟩
theorem zpY {z:Nat}{w w':World}{A:oA9}{n c:Nat}{xs:List Rat}{t:TypeId}{cs:Array Value}(h:VZ z w A n c xs)(hk:Blk w z t cs)(a:NoK .u64 cs)(ho:zaV z w w'):VZ z w' A n c xs:=
 ⟨vec_offN h.1 (λad e=>by have:=h.2 ad e;omega) hk a ho,h.2⟩
theorem zbN.off {α:Type}{R:RP α}{w w':World}{b:Nat}{t:TypeId}{v:Value}{Ls:List (List α)}{vs:List Value}(h:zbN R w b t v Ls vs)(hb:∀g s cs,v.ownBlock=some g->Blk w g s cs->Blk w' g s cs)
  (hE:∀{B:oA9} {m d:Nat} {L:List α},R w B m d L->R w' B m d L):zbN R w' b t v Ls vs:=by
 refine⟨⟨h.own.1,?_⟩,λg e=>?_,λi L hi=>?_⟩
 ·rcases h.own.2 with h1|⟨g,cap,a,e1,e2,e3,e4⟩
  ·exact .inl h1
  ·exact .inr ⟨g,cap,a,e1,e2,hb g t a (by rw [e1];rfl) e3,e4⟩
 ·obtain⟨a,s,h1,h2⟩:=h.sl g e;exact⟨a,s,hb g s a e h1,h2⟩
 ·obtain⟨B,d,hv,hw⟩:=h.num i L hi;exact⟨B,d,hv,hE hw⟩
theorem zbN.at_ {α:Type}{R:RP α}{w:World}{b n:Nat}{t:TypeId}{A:oA9}{k c:Nat}{Ls:List (List α)}{vs:List Value}(h:zbN R w b t (.slice A k c) Ls vs)(hn:0<Ls.length):∃g a,A=some ⟨g,0,none⟩/\b<=g/\k=Ls.length/\k<=c/\c<=maxLen/\Blk w g t a/\a.size=c/\a.toList.take k=vs/\∀u ∈ a.toList,zcv u:=by
 rcases h.own.2 with⟨_,h0⟩|⟨g,cap,a,e1,e2,e3,e4,e5,e6,e7⟩
 ·omega
 ·injection e1 with a1 a2 a3;subst a1 a2 a3;obtain⟨cur2,s,h1,h2⟩:=h.sl g rfl;rw [e3] at h1;injection h1 with h1;injection h1 with h1 _;subst h1;exact⟨g,a,rfl,e2,rfl,e4,e5,e3,om9,by rw [<-e7,Nat.mul_one],h2⟩
theorem zbN.set_ {α:Type}{R:RP α}(hR:zcf R){w:World}{a:Nat}{t:TypeId}{g k c:Nat}{Ls:List (List α)}{vs:List Value}(h:zbN R w a t (.slice (some ⟨g,0,none⟩) k c) Ls vs){i:Nat}(hi:i<Ls.length){L:List α}{B:oA9}{m d:Nat}(hx:R w B m d L)(hm:L.length=m):
  zbN R (w.setCell ⟨g,i,none⟩ (.slice B m d)) a t (.slice (some ⟨g,0,none⟩) k c) (Ls.set i L) (vs.set i (.slice B m d)):=by
 subst hm;obtain⟨g',cur,e1,e2,e3,e4,e5,hk,e6,e7,hs⟩:=h.at_ (n:=0) om9;injection e1 with e1;injection e1 with e1;subst e1;have hl:=h.len;have ho:zaV g w (w.setCell ⟨g,i,none⟩ (.slice B L.length d)):=zaV.of_far ((zbp.refl g w).set_ i _);have b:=hk.set_ i (.slice B L.length d);refine⟨⟨by rw [List.length_set,List.length_set,hl,Nat.mul_one],.inr ⟨g,c,_,by rw [List.length_set,<-e3],e2,b,by rw [List.length_set,<-e3];exact e4,e5,by simp;exact e6,?_⟩⟩,λq hq=>?_,λj M hj=>?_⟩
 ·rw [List.length_set,<-e3,Nat.mul_one,Array.toList_setIfInBounds,List.take_set,e7]
 ·simp [Value.ownBlock] at hq;subst hq;refine⟨_,_,b,λu hu=>?_⟩;rw [Array.toList_setIfInBounds] at hu;rcases List.mem_or_eq_of_mem_set hu with hu|rfl
  ·exact hs u hu
  ·exact⟨_,_,_,rfl⟩
 ·by_cases hij:i=j
  ·subst hij;rw [List.getElem?_set_self hi] at hj;injection hj with hj;subst hj;exact⟨B,d,by rw [List.getElem?_set_self om9],hR.offS hx hk hs ho⟩
  ·rw [List.getElem?_set_ne hij] at hj;obtain⟨B',d',c1,c2⟩:=h.num j M hj;exact⟨B',d',by rw [List.getElem?_set_ne hij];exact c1,hR.offS c2 hk hs ho⟩
def zih (u:Value):Prop:=∃z,u=.int .i64 z
def ldV (ld:List Nat):List Value:=ld.map λl:Nat=>.int .i64 (l:Int)
structure zde (w:World)(base:Nat)(v:Value)(ld:List Nat):Prop where
 own:w.ownsRow base 3 1 v ld.length (ldV ld)
 pr:zfK zih w v
theorem zde.nil (w:World)(a:Nat):zde w a (.slice none 0 0) []:=⟨World.ownsRow_nil _ _ _ _,zfK.nil _ _⟩
theorem zde.off {w w':World}{b:Nat}{v:Value}{ld:List Nat}(h:zde w b v ld)(hb:∀g s cs,v.ownBlock=some g->Blk w g s cs->Blk w' g s cs):zde w' b v ld:=by
 refine⟨⟨h.own.1,?_⟩,λg e=>?_⟩
 ·rcases h.own.2 with h1|⟨g,cap,a,e1,e2,e3,e4⟩
  ·exact .inl h1
  ·exact .inr ⟨g,cap,a,e1,e2,hb g _ a (by rw [e1];rfl) e3,e4⟩
 ·obtain⟨a,s,h1,h2⟩:=h.pr g e;exact⟨a,s,hb g s a e h1,h2⟩
theorem zde.shape {w:World}{a:Nat}{v:Value}{ld:List Nat}(h:zde w a v ld):∃A c,v=.slice A ld.length c/\ld.length<=c/\c<=9223372036854775807/\(∀ad,A=some ad->a<=ad.block)/\∀i,i<ld.length->∃ad,A=some ad/\w.cell? (ad.add i)=some (.int .i64 (ld.getD i 0:Nat)):=by
 rcases h.own.2 with⟨rfl,h0⟩|⟨g,cap,cur,rfl,hbg,hg,hnc,hcm,hcs,htake⟩
 ·exact⟨none,0,by rw [h0],om9,de9,(λad e=>by cases e),λi hi=>by omega⟩
 ·have b:=h.own.cells (g:=g) rfl;refine⟨some ⟨g,0,none⟩,cap,rfl,hnc,by unfold maxLen at hcm;omega,(λad e=>by injection e with e;subst e;exact hbg),λi hi=>⟨_,rfl,b _ _ ?_⟩⟩;unfold ldV;rw [List.getElem?_map,List.getD_eq_getElem?_getD,List.getElem?_eq_getElem hi];rfl
theorem ziI {cs:Array Value}(hs:∀u ∈ cs.toList,zih u):NoK .u64 cs:=λu hu z e=>by
 obtain⟨z',e2⟩:=hs u hu;rw [e2] at e;cases e
theorem zeJ {cs:Array Value}(hs:∀u ∈ cs.toList,zcv u):NoK .u64 cs:=λu hu z e=>by
 obtain⟨A,n,c,e2⟩:=hs u hu;rw [e2] at e;cases e
def RV (w:World)(x:Rat)(x0 x1 x2:Value):Prop:=∃(b:Bool) (A:oA9) (n c:Nat) (E:oA9) (k f:Nat),x0=.bool b/\x1=.slice A n c/\x2=.slice E k f/\zaf w x b A n c E k f
theorem RV.of {w:World}{x:Rat}{b:Bool}{A:oA9}{n c:Nat}{E:oA9}{k f:Nat}(h:zaf w x b A n c E k f):RV w x (.bool b) (.slice A n c) (.slice E k f):=⟨_,_,_,_,_,_,_,rfl,rfl,rfl,h⟩
theorem RV.below {w w':World}{x:Rat}{x0 x1 x2:Value}(h:RV w x x0 x1 x2)(hb:Below w.heap.size w w'):RV w' x x0 x1 x2:=by
 obtain⟨b,A,n,c,E,k,f,e0,e1,e2,hr⟩:=h;exact⟨b,A,n,c,E,k,f,e0,e1,e2,hr.below hb⟩
theorem RV.off {w w':World}{x:Rat}{x0 x1 x2:Value}{g:Nat}{t:TypeId}{cs:Array Value}(h:RV w x x0 x1 x2)(hk:Blk w g t cs)(a:NoK .u64 cs)(ho:zaV g w w'):RV w' x x0 x1 x2:=by
 obtain⟨b,A,n,c,E,k,f,e0,e1,e2,hr⟩:=h;exact⟨b,A,n,c,E,k,f,e0,e1,e2,zaz hk a ho hr⟩
structure ElS (w:World)(g:Nat)(e:ESt)(rd:Rat)(A:oA9)(n cA:Nat)(B:oA9)(k cB:Nat)(x0 x1 x2 y0 y1 y2:Value):Prop where
 blk:Blk w g 105 #[.slice A n cA,.slice B k cB,x0,x1,x2,y0,y1,y2]
 hn:e.S.length=n
 hk:e.ld.length=k
 rows:∃vs,zbN (VZ g) w g 61 (.slice A n cA) e.S vs
 lds:zde w g (.slice B k cB) e.ld
 lead:RV w e.p x0 x1 x2
 rsd:RV w rd y0 y1 y2
section
variable {w w':World}{g:Nat}{e:ESt}{rd:Rat}{A:oA9}{n cA:Nat}{B:oA9}{k cB:Nat}{x0 x1 x2 y0 y1 y2:Value}
theorem ElS.below (h:ElS w g e rd A n cA B k cB x0 x1 x2 y0 y1 y2)(hb:Below w.heap.size w w'):ElS w' g e rd A n cA B k cB x0 x1 x2 y0 y1 y2:=by
 obtain⟨vs,hr⟩:=h.rows;exact{blk:=zab hb h.blk,hn:=h.hn,hk:=h.hk,rows:=⟨vs,hr.below (vz_rs g) hb⟩,lds:=h.lds.off λq s cs _ hq=>zab hb hq,lead:=h.lead.below hb,rsd:=h.rsd.below hb}
theorem ElS.nok (h:ElS w g e rd A n cA B k cB x0 x1 x2 y0 y1 y2):NoK .u64 #[.slice A n cA,.slice B k cB,x0,x1,x2,y0,y1,y2]:=by
 obtain⟨_,_,_,_,_,_,_,rfl,rfl,rfl,_⟩:=h.lead;obtain⟨_,_,_,_,_,_,_,rfl,rfl,rfl,_⟩:=h.rsd;intro v hv z e;simp at hv;rcases hv with rfl|rfl|rfl|rfl|rfl|rfl|rfl|rfl<;>cases e
theorem zhM {w:World}{q:Nat}{t s:TypeId}{cs ds:Array Value}(h:Blk w q t cs)(h':Blk w q s ds):t=s:=by
 unfold Blk at h h';rw [h] at h';injection h' with h';injection h' with _ h'
theorem ElS.neA (h:ElS w g e rd A n cA B k cB x0 x1 x2 y0 y1 y2){q:Nat}(hq:(Value.slice A n cA).ownBlock=some q):q≠g/\∃cs,Blk w q 61 cs/\∀u ∈ cs.toList,zcv u:=by
 obtain⟨vs,hr⟩:=h.rows;rcases hr.own.2 with⟨h1,_⟩|⟨g',cap,cur,e1,e2,e3,_⟩
 ·rw [h1] at hq;cases hq
 ·rw [e1] at hq;simp [Value.ownBlock] at hq;subst hq;obtain⟨a,s,h1,h2⟩:=hr.sl g' (by rw [e1];rfl);have:a=cur:=by rw [e3] at h1;injection h1 with h1;injection h1 with h1 _;exact h1.symm
  subst this;exact⟨λe=>absurd (zhM e3 (e▸h.blk)) de9,a,e3,h2⟩
theorem ElS.neB (h:ElS w g e rd A n cA B k cB x0 x1 x2 y0 y1 y2){q:Nat}(hq:(Value.slice B k cB).ownBlock=some q):q≠g/\∃cs,Blk w q 3 cs/\∀u ∈ cs.toList,zih u:=by
 rcases h.lds.own.2 with⟨h1,_⟩|⟨g',cap,cur,e1,e2,e3,_⟩
 ·rw [h1] at hq;cases hq
 ·rw [e1] at hq;simp [Value.ownBlock] at hq;subst hq;obtain⟨a,s,h1,h2⟩:=h.lds.pr g' (by rw [e1];rfl);have:a=cur:=by rw [e3] at h1;injection h1 with h1;injection h1 with h1 _;exact h1.symm
  subst this;exact⟨λe=>absurd (zhM e3 (e▸h.blk)) de9,a,e3,h2⟩
theorem ElS.setRow {q:Nat}(h:ElS w g e rd (some ⟨q,0,none⟩) n cA B k cB x0 x1 x2 y0 y1 y2){i:Nat}(hi:i<n){L:List Rat}{C:oA9}{m d:Nat}(hx:VZ g w C m d L)(hm:L.length=m):ElS (w.setCell ⟨q,i,none⟩ (.slice C m d)) g {e with S:=e.S.set i L} rd (some ⟨q,0,none⟩) n cA B k cB x0 x1 x2 y0 y1 y2:=by
 obtain⟨a,cs,hq,hs⟩:=h.neA (q:=q) rfl;obtain⟨vs,hr⟩:=h.rows;have ho:zaV q w (w.setCell ⟨q,i,none⟩ (.slice C m d)):=zaV.of_far ((zbp.refl q w).set_ i _);exact {
  blk:=Blk.far (p:=⟨q,i,none⟩) h.blk (Ne.symm a) _
  hn:=by rw [<-h.hn];exact List.length_set
  hk:=h.hk
  rows:=⟨_,hr.set_ (vz_rs g) (by rw [h.hn];exact hi) hx hm⟩
  lds:=h.lds.off λp s ds hp hk=>Blk.far (p:=⟨q,i,none⟩) hk (λe=>by
   obtain⟨_,ds',h1,_⟩:=h.neB hp;subst e;exact absurd (zhM hq h1) de9) _
  lead:=h.lead.off hq (zeJ hs) ho
  rsd:=h.rsd.off hq (zeJ hs) ho}
theorem ElS.store (h:ElS w g e rd A n cA B k cB x0 x1 x2 y0 y1 y2)(hf:zbp g w w'){z0 z1 z2 u0 u1 u2:Value}{p b:Rat}(hb:Blk w' g 105 #[.slice A n cA,.slice B k cB,z0,z1,z2,u0,u1,u2])(hp:RV w p z0 z1 z2)(c:RV w b u0 u1 u2)(a:∀q s cs,q≠g->Blk w q s cs->Blk w' q s cs):ElS w' g {e with p:=p} b A n cA B k cB z0 z1 z2 u0 u1 u2:=by
 obtain⟨vs,hr⟩:=h.rows;have ho:=zaV.of_far hf;exact {
  blk:=hb
  hn:=h.hn
  hk:=h.hk
  rows:=⟨vs,hr.off (λq s cs hq hk=>a q s cs (h.neA hq).1 hk) (λhx=>zpY hx h.blk h.nok ho)⟩
  lds:=h.lds.off λq s cs hq hk=>a q s cs (h.neB hq).1 hk
  lead:=hp.off h.blk h.nok ho
  rsd:=c.off h.blk h.nok ho}
end
def ldI (ld:List Nat):List Int:=ld.map λl:Nat=>(l:Int)
theorem zde.ints {w:World}{a:Nat}{B:oA9}{k c:Nat}{ld:List Nat}(h:zde w a (.slice B k c) ld)(hb:∀l ∈ ld,l<128):zdQ w B k (ldI ld):=by
 obtain⟨B',c',e,-,-,-,h1⟩:=h.shape;injection e with e1 e2 e3;subst e1 e2;refine⟨by unfold ldI;rw [List.length_map],λi hi=>?_,λi hi=>?_⟩
 ·unfold ldI;rw [List.getD_eq_getElem?_getD,List.getElem?_map,List.getElem?_eq_getElem hi];have:=hb _ (List.getElem_mem hi);show -9223372036854775808<=((ld[i]:Nat):Int)/\((ld[i]:Nat):Int)<=9223372036854775807;omega
 ·obtain⟨ad,e,hc⟩:=h1 i hi;refine⟨ad,e,?_⟩;rw [hc];unfold ldI;rw [List.getD_eq_getElem?_getD,List.getD_eq_getElem?_getD,List.getElem?_map,List.getElem?_eq_getElem hi];rfl
theorem zdQ.keep {w w':World}{A:oA9}{n:Nat}{zs:List Int}(h:zdQ w A n zs)(hb:Below w.heap.size w w'):zdQ w' A n zs:=
 ⟨h.len,h.ints,λi hi=>by obtain⟨ad,e,hc⟩:=h.num i hi;exact⟨ad,e,zac hb hc⟩⟩
theorem zdQ.off {w w':World}{A:oA9}{n g:Nat}{zs:List Int}{t:TypeId}{cs:Array Value}(h:zdQ w A n zs)(hk:Blk w g t cs)(a:NoK .i64 cs)(ho:zaV g w w'):zdQ w' A n zs:=
 ⟨h.len,h.ints,λi hi=>by
  obtain⟨ad,e,hc⟩:=h.num i hi;refine⟨ad,e,(ho.2 _ (World.block_lt_of_cell? w _ hc) λhg=>?_).trans hc⟩;generalize ad.add i=q at hc hg;obtain⟨bk,off,pr⟩:=q;simp only at hg;subst hg;unfold Blk at hk;cases pr with
  |none=>
    rw [show w.cell? ⟨bk,off,none⟩=cs[off]? from cell_of_row w bk off _ t (0,0) hk,<-Array.getElem?_toList] at hc;exact a _ (List.mem_of_getElem? hc) _ rfl
  |some q=>simp [World.cell?,hk] at hc⟩
section
variable {w:World}{A:oA9}{n c m K K0:Nat}{MM:List (List Rat)}
end
