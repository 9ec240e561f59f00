/- What this claim leans on. -/
import Derived.Test.YtcojjcjgbepicaaGreatDoorHBunQ
import Derived.Laws.BytesArg
namespace Go.Proofs.YtcojjcjgbepicaaGreatDoor
open Go Go.RowKit Go.Proofs.Tryz
set_option maxHeartbeats 16000000
set_option linter.unusedVariables false
def zcW (w:World)(q r:Nat)(b:Bool)(e:Ending)(w':World):Prop:=∃(A:oA9) (n c:Nat) (B:oA9) (m d:Nat),e=.returned (.tuple #[.agg #[.slice A n c],.agg #[.slice B m d],.bool b])/\zaf w' q A n c/\zaf w' r B m d/\Below w.heap.size w w'
def zeV (w:World)(x:Nat)(b:Bool)(e:Ending)(w':World):Prop:=∃(A:oA9) (n c:Nat),e=.returned (.tuple #[.agg #[.slice A n c],.bool b])/\zaf w' x A n c/\Below w.heap.size w w'
def zgQ (w:World)(q x:Nat)(b:Bool)(e:Ending)(w':World):Prop:=∃(A:oA9) (n c:Nat),e=.returned (.tuple #[.agg #[.slice A n c],.int .u64 (x:Int),.bool b])/\zaf w' q A n c/\Below w.heap.size w w'
structure QuotC:Prop where
 divMod:∀(x y:Nat) (A D:oA9) (n m c d:Nat) (w:World),zaf w x A n c->zaf w y D m d->n<=1073741824->m<=1073741824->y≠0->Calls prog 199 #[.agg #[.slice A n c],.agg #[.slice D m d]] w (zcW w (x / y) (x%y) true)
 divModNo:∀(x y:Nat) (A D:oA9) (n m c d:Nat) (w:World),zaf w x A n c->zaf w y D m d->n<=1073741824->m<=1073741824->y=0->Calls prog 199 #[.agg #[.slice A n c],.agg #[.slice D m d]] w (zcW w 0 0 false)
 div:∀(x y:Nat) (A D:oA9) (n m c d:Nat) (w:World),zaf w x A n c->zaf w y D m d->n<=1073741824->m<=1073741824->y≠0->Calls prog 171 #[.agg #[.slice A n c],.agg #[.slice D m d]] w (zeV w (x / y) true)
 mod:∀(x y:Nat) (A D:oA9) (n m c d:Nat) (w:World),zaf w x A n c->zaf w y D m d->n<=1073741824->m<=1073741824->y≠0->Calls prog 210 #[.agg #[.slice A n c],.agg #[.slice D m d]] w (zeV w (x%y) true)
 byWord:∀(x a:Nat) (A:oA9) (n c:Nat) (w:World),zaf w x A n c->n<=1073741824->a<18446744073709551616->a≠0->Calls prog 214 #[.agg #[.slice A n c],.int .u64 a] w (zgQ w (x / a) (x%a) true)
 byWordNo:∀(x:Nat) (A:oA9) (n c:Nat) (w:World),zaf w x A n c->n<=1073741824->Calls prog 214 #[.agg #[.slice A n c],.int .u64 0] w (zgQ w 0 0 false)
def zhy (x y:Int):Int:=if x<y then -1 else if x=y then 0 else 1
theorem zim (x y:Int):zhy x y=0↔x=y:=by unfold zhy;split<;>(try split)<;>omega
def zeO (x:Int):Int:=if x<0 then -1 else if x=0 then 0 else 1
theorem sgnZ_eq (x:Int):zeO x=0↔x=0:=by unfold zeO;split<;>(try split)<;>omega
def zam (w:World):Prop:=∀j,j<Lib.deBruijn64tab.length->w.cell? ⟨0,j,none⟩=some (.int .u8 (Lib.deBruijn64tab.getD j 0:Nat))
theorem zam.below {B:Nat}{w w':World}(h:zam w)(hb:Below B w w')(hB:0<B):zam w':=λj hj=>(hb.cell (p:=⟨0,j,none⟩) hB).trans (h j hj)
theorem zam.drewN {w:World}(h:zam w)(n:Nat):zam (w.drewN n):=h
theorem zam.on {w w':World}(h:zam w)(hb:Below w.heap.size w w'):zam w':=h.below hb (by
 have:=h 0 de9;exact World.block_lt_of_cell? w _ this)
theorem tz_key (x a:Nat)(hx:x<18446744073709551616)(hx0:x≠0)(b:x&&&(18446744073709551616 - x)=a):
  IntKind.u64.wrap (bits BinOp.and IntKind.u64 (x:Int) (IntKind.u64.wrap (-(x:Int)))*285870213051353865) / 288230376151711744=((a*285870213051353865%18446744073709551616 / 288230376151711744:Nat):Int):=by
 have e1:IntKind.u64.wrap (-(x:Int))=((18446744073709551616 - x:Nat):Int):=by rw [IntKind.wrap_u64];omega
 rw [e1,bits_and_u64_nat x _ hx om9,b,IntKind.wrap_u64];omega
theorem zlW (x k a:Nat)(w:World)(hx0:((x:Int)==0)=false)
  (b:IntKind.u64.wrap (bits BinOp.and IntKind.u64 (x:Int) (IntKind.u64.wrap (-(x:Int)))*285870213051353865) / 288230376151711744=(a:Int))
  (hi:a<64) (hk:k<64) (hcell:w.cell? ⟨0,a,none⟩=some (.int .u8 k)):
  Calls prog 223 #[.int .u64 x] w λe w'=>e=.returned (.int .i64 k)/\w=w':=by
 go_enter func223,ntmps223;go_wp2_with (simp only [b]);go_ret;exact⟨rfl,rfl⟩
theorem zlX (w:World):
  Calls prog 223 #[.int .u64 0] w λe w'=>e=.returned (.int .i64 64)/\w=w':=by
 go_enter func223,ntmps223;go_wp2;go_ret;exact⟨rfl,rfl⟩
theorem zpQ (x:Int)(hx:Wd x)(w:World)(hT:zam w):
  Calls prog 223 #[.int .u64 x] w λe w'=>e=.returned (.int .i64 (zgJ x))/\w=w':=by
 obtain⟨h0,h1⟩:=hx;obtain⟨x,rfl⟩:=Int.eq_ofNat_of_zero_le h0;have hN:x<18446744073709551616:=om9;unfold zgJ;rw [Int.toNat_natCast];by_cases hx0:x=0
 ·subst hx0;exact zlX w
 ·obtain⟨b,hk⟩:=Lib.lowest_bit 64 x hx0 hN;obtain⟨hi,c⟩:=Lib.deBruijn64_at _ hk;have a:=hT _ hi;rw [c] at a;exact zlW x _ _ w (by simp;omega) (tz_key x _ hN hx0 b) hi hk a
theorem zpi (x:Int)(hx:Wd x)(w:World)(hT:zam w):
  Calls prog 213 #[.int .u64 x] w λe w'=>e=.returned (.int .i64 (zgJ x))/\w=w':=by
 have H:=lh9 (zpQ x hx w hT);clear hT;go_enter func213,ntmps213;go_wp2_with (go_at_call 223;refine H.out.mono ?_;rintro e w' ⟨rfl,rfl⟩);go_ret;exact⟨rfl,rfl⟩
set_option maxRecDepth 100000
theorem nat_add (x y:Nat)(A D:oA9)(n m c d:Nat)(w:World)(hA:zaf w x A n c)(hD:zaf w y D m d)(hn:n<=549755813888)(hm:m<=549755813888):
  Calls prog 207 #[.agg #[.slice A n c],.agg #[.slice D m d]] w (zaR w (x+y)):=by
 obtain⟨i0,ab,aj,ak,al⟩:=info_parts zfA;have ag:=lh9 hA.len;have af:=lh9 hD.len;have HA:=up9 w (λw' hb=>hA.below hb);have HD:=up9 w (λw' hb=>hD.below hb);obtain⟨N,hN⟩:∃N,max n m=N:=⟨_,rfl⟩;have hN1:n<=N:=om9;have hN2:m<=N:=om9;have hN3:N<=549755813888:=om9;obtain⟨Z,hZ⟩:∃Z,madeCells (Value.cells (.int .u64 0)) ((N+1)*i0.size)=Z:=⟨_,rfl⟩;have HZ:Hid (Z.size=N+1):=by show _=_;rw [<-hZ,size_madeCells,ak,Nat.mul_one]
 have ah:∀W:World,(Instr.makeSlice 47 (.int .i64 ((N:Int)+1)) (.int .i64 ((N:Int)+1))).run prog W=.ok (.slice (some ⟨W.heap.size,0,none⟩) (N+1) (N+1)) (W.alloc (.cells Z 161)):=λW=>by
  rw [<-hZ];exact zaW _ _ i0 _ underlying47 ab aj _ _ (N+1) (N+1) (Nat.le_refl _) (by rw [al];omega) om9 W
 have ai:IntKind.i64.wrap ((N:Int)+1)=(N:Int)+1:=IntWalk.i64_in _ om9;have J:(if (n:Int)<(m:Int) then(m:Int) else(n:Int))=(N:Int):=by split<;>omega
 have K:(if n<m then(m:Int) else(n:Int))=(N:Int):=by split<;>omega
 have M:(if (m:Int)>(n:Int) then(m:Int) else(n:Int))=(N:Int):=by split<;>omega
 clear hZ hA hD hN;go_enter func207,ntmps207;go_wp2_with fail;generalize hW:((w.alloc (.cells #[.slice A n c] 49)).alloc (.cells #[.slice D m d] 49)).alloc (.cells #[.slice none 0 0] 49)=W0;obtain⟨b1,b2,b3,b4,b5⟩:=zbs w 49 49 49 #[.slice A n c] #[.slice D m d] #[.slice none 0 0];rw [hW] at b1 b2 b3 b4 b5;have g1:W0.cell? ⟨w.heap.size,0,none⟩=some (.slice A n c):=b2.cell 0;have g2:W0.cell? ⟨w.heap.size+1,0,none⟩=some (.slice D m d):=b3.cell 0;clear hW b2 b3;have l:=b1.drew;have o:=b4.drew
 go_region_held3 (fun w' => Below w.heap.size w w' ∧ w'.cell? ⟨w.heap.size,0,none⟩ = some (.slice A n c) ∧ w'.cell? ⟨w.heap.size + 1,0,none⟩ = some (.slice D m d) ∧ Blk w' (w.heap.size + 1 + 1) 49 #[.slice none 0 0])
  (first|(exact⟨l,g1,g2,o⟩)|(go_split_ands;(repeat' apply And.intro);all_goals (first|exact as9|exact zac as9 hb|exact zae hb as9|exact zad hb as9|exact zaj _ as9|exact zap _ as9|exact Blk.alloc as9 _|exact zag _ (by simp;omega) as9|exact zai _ (by simp;omega) as9|exact Blk.far as9 (by simp;omega) _)))
  (first
    |(go_at_call 151;refine(zbK x _ _ _ _).mono ?_;rintro e w' ⟨rfl,hb⟩))
 rename_i w1 hb1 hH
 obtain⟨hB,g1,g2,hk⟩:=hH;have hgs:w.heap.size+3<=w'.heap.size:=by
  have h1:=hb1.size;have h2:=hb.size;have h3:W0.drew.heap.size=W0.heap.size:=rfl;omega
 have H:=Blk.new w' 161 Z;generalize w'.alloc (.cells Z 161)=W1 at*;generalize w'.heap.size=gs at*;clear ah J K M hb hb1 l o b1 b4 b5 ai;go_wp2_with fail
 go_loopg [6,7,17] (N + 2) (fun g v _ i wr => ∃ (k cc : Nat) (cs : Array Value) (out : List Nat),k ≤ N + 1 ∧ N + 1 < g + k ∧ i = .int .i64 k ∧ v = .int .u64 cc ∧ AddB x y k out cc ∧ cs.size = N + 1 ∧ cs.toList.take k = zaw .u64 out ∧ Blk wr gs 161 cs ∧
   Below w.heap.size w wr/\wr.cell? ⟨w.heap.size,0,none⟩=some (.slice A n c)/\wr.cell? ⟨w.heap.size+1,0,none⟩=some (.slice D m d)/\Blk wr (w.heap.size+1+1) 49 #[.slice none 0 0])
 case atStart=>exact⟨0,0,Z,[],om9,om9,rfl,rfl,AddB.start x y,HZ.out,rfl,H,hB,g1,g2,hk⟩
 case round=>
  clear hB g1 g2 hk H;obtain⟨k,cc,cs,out,hk,hg,rfl,rfl,f,hsz,B,t,hB,g1,g2,r⟩:=hrel;have I:=f.carry;by_cases hlt:k<N+1
  ·have z:=f.step (s:=wd x k+wd y k+cc) rfl;have V:=zcu x k;have X:=zcu y k;have WX:=up9 w (λw' h=>zdH x A n c k w' (HA.out w' h));have WY:=up9 w (λw' h=>zdH y D m d k w' (HD.out w' h));obtain⟨a,ha⟩:∃a,wd x k=a:=⟨_,rfl⟩;obtain⟨b,hb⟩:∃a,wd y k=a:=⟨_,rfl⟩;rw [ha] at WX V z;rw [hb] at WY X z;have WA:∀w',Calls prog 217 #[.int .u64 a,.int .u64 b,.int .u64 cc] w' λe Q=>e=.returned (.tuple #[.int .u64 (((a+b+cc)%18446744073709551616:Nat):Int),.int .u64 (((a+b+cc) / 18446744073709551616:Nat):Int)])/\w'=Q:=λw'=>by
    rw [<-zka I,<-zjZ I];exact znH a b cc ⟨om9,om9⟩ ⟨om9,om9⟩ ⟨om9,om9⟩ w'
   have C:=lh9 z;have E:=lh9 hsz;have R:=lh9 B;obtain⟨s1,e1⟩:∃s1,(a+b+cc)%18446744073709551616=s1:=⟨_,rfl⟩;obtain⟨s2,e2⟩:∃s2,(a+b+cc) / 18446744073709551616=s2:=⟨_,rfl⟩;rw [e1,e2] at WA C;have S:=lh9 WA;obtain⟨u,hu⟩:∃u,cs[k]?=some u:=⟨cs[k]' om9,Array.getElem?_eq_getElem om9⟩;have HU:=lh9 hu;clear WA z ha hb e1 e2 f B hu hsz;have i1:(0:Int)<=(k:Int):=om9;have i2:(k:Int)<(N:Int)+1:=om9;go_wp2_with fail;have l:=hB.drew;have o:=r.drew;have Y:=t.drew
   go_region_held3 (λw'=>Below w.heap.size w w'/\w'.cell? ⟨w.heap.size,0,none⟩=some (.slice A n c)/\w'.cell? ⟨w.heap.size+1,0,none⟩=some (.slice D m d)/\Blk w' (w.heap.size+1+1) 49 #[.slice none 0 0])
   (first | (exact ⟨l,g1,g2,o⟩) | (go_split_ands; (repeat' apply And.intro); all_goals (first | exact as9 | exact zac as9 hb | exact zae hb as9 | exact zad hb as9 | exact zaj _ as9 | exact zap _ as9 | exact Blk.alloc as9 _ | exact zag _ (by simp; omega) as9 | exact zai _ (by simp; omega) as9 | exact Blk.far as9 (by simp; omega) _)))
     (first
       |(go_at_call 172;with_reducible refine(WX.out _ (by first|exact as9|exact And.left as9)).mono ?_;rintro e w' ⟨rfl,hb⟩;have j:Blk w' gs 161 cs:=zad hb as9;have q1:=(j.cell k).trans HU.out;have q2:=j.frozen k)
       |(go_at_call 172;with_reducible refine(WY.out _ (by first|exact as9|exact And.left as9)).mono ?_;rintro e w' ⟨rfl,hb⟩;have j:Blk w' gs 161 cs:=zad hb as9;have q1:=(j.cell k).trans HU.out;have q2:=j.frozen k)
       |(go_at_call 217;with_reducible refine(S.out _).mono ?_;rintro e Q ⟨rfl,rfl⟩))
   rename_i hH
   obtain⟨U,g3,g4,ac⟩:=hH;have ad:=j.set_ k (.int .u64 s1);clear hb j q1 q2 l o Y hB g1 g2 r t;go_wp2;go_roundg (N+1 - k)
   case measure=>omega
   case rel=>exact⟨k+1,s2,_,_,om9,om9,by go_num,rfl,C.out,by simpa using E.out,by rw [zjD _ _ _ (by have:=E.out;omega),R.out,zeS],ad,U,g3,g4,ac⟩
  ·have ae:k=N+1:=om9;subst ae;have e:=f.done (by have:=ag.out;omega) (by have:=af.out;omega);have O:out.length=N+1:=f.len;have T:=zfE (some ⟨gs,0,none⟩) (N+1) (N+1) wr.heap.size out wr (zdt t hsz B O) f.dgs (Nat.le_refl _) om9 om9;rw [e] at T;have HT:=lh9 T;have aa:wr.cell? ⟨w.heap.size+1+1,0,none⟩=some (.slice none 0 0):=r.cell 0;have hf1:=r.frozen 0;clear T t hsz B f e O r g1 g2;go_wp2_with fail;refine HT.out.mono ?_;rintro e w2 ⟨A1,c1,rfl,P,h1,h2,F,rfl⟩;have G:=zgh hB (p:=w.heap.size+1+1) (gs:=gs) om9 om9 P h1 h2 F om9 (.slice A1 (dg 18446744073709551616 (x+y)).length c1);have HG:Hid (zaR w (x+y) (.returned (.agg #[.slice A1 (dg 18446744073709551616 (x+y)).length c1])) (wr.setCell ⟨w.heap.size+1+1,0,none⟩ (.slice A1 (dg 18446744073709551616 (x+y)).length c1))):=⟨_,_,_,rfl,G.2.1,G.1,G.2.2⟩;clear G P h1 h2 F;obtain⟨L,hL⟩:∃L,(dg 18446744073709551616 (x+y)).length=L:=⟨_,rfl⟩;rw [hL] at HG⊢;clear hL;go_wp2;refine bodyPost_ret (v:=.agg #[.slice A1 L c1]) (by simp [results,results207,go_sem,aa]) rfl ?_;exact HG.out
theorem zoy (x y:Nat)(A D:oA9)(n m c d:Nat)(w:World)(hA:zaf w x A n c)(hD:zaf w y D m d)(hn:n<=549755813888)(hm:m<=549755813888)(a:x<y):
  Calls prog 208 #[.agg #[.slice A n c],.agg #[.slice D m d]] w (zfV w 0 false):=by
 have CC:=up9 w (λw' hb=>zfh x y A D n m c d w' (hA.below hb) (hD.below hb) om9 om9);rw [zcZ a] at CC;clear hA hD a;go_enter func208,ntmps208;go_wp2_with fail;generalize hW:((w.alloc (.cells #[.slice A n c] 49)).alloc (.cells #[.slice D m d] 49)).alloc (.cells #[.slice none 0 0] 49)=W0;obtain⟨b1,b2,b3,b4,b5⟩:=zbs w 49 49 49 #[.slice A n c] #[.slice D m d] #[.slice none 0 0];rw [hW] at b1 b2 b3 b4 b5;clear hW b2 b3;refine(CC.out _ b1).mono ?_;rintro e w1 ⟨rfl,hb⟩;have hB:=zac b1 hb;have hk:=zad hb b4;have b:w1.cell? ⟨w.heap.size+1+1,0,none⟩=some (.slice none 0 0):=hk.cell 0;have hf1:=hk.frozen 0;have HG:Hid (zfV w 0 false (.returned (.tuple #[.agg #[.slice none 0 0],.bool false])) (w1.setCell ⟨w.heap.size+1+1,0,none⟩ (.slice none 0 0))):=⟨_,_,_,rfl,zgL _,zag _ (by show _<=w.heap.size+1+1;omega) hB,zeC.none_ _⟩;clear hB hk hb b1 b4;go_wp2;refine bodyPost_ret (v:=.tuple #[.agg #[.slice none 0 0],.bool false]) (by simp [results,results208,go_sem,b]) rfl ?_;exact HG.out
theorem zpC (x y:Nat)(A D:oA9)(n m c d:Nat)(w:World)(hA:zaf w x A n c)(hD:zaf w y D m d)(hn:n<=549755813888)(hm:m<=549755813888)(B:y<=x):
  Calls prog 208 #[.agg #[.slice A n c],.agg #[.slice D m d]] w (zfV w (x - y) true):=by
 obtain⟨i0,af,an,ao,ap⟩:=info_parts zfA;have aj:=lh9 hA.len;have HA:=up9 w (λw' hb=>hA.below hb);have HD:=up9 w (λw' hb=>hD.below hb);have S:=lh9 B;have t:=cmpI_ge B;have CC:=(λw' (hb:Below w.heap.size w w')=>zfh x y A D n m c d w' (hA.below hb) (hD.below hb) om9 om9);obtain⟨z,hz⟩:∃z,zby x y=z:=⟨_,rfl⟩;rw [hz] at CC t;have HC:=lh9 CC;have hzl:¬ z<0:=om9;have hzd:decide (z<0)=false:=by simpa using t
 obtain⟨Z,hZ⟩:∃Z,madeCells (Value.cells (.int .u64 0)) (n*i0.size)=Z:=⟨_,rfl⟩;have HZ:Hid (Z.size=n):=by show _=_;rw [<-hZ,size_madeCells,ao,Nat.mul_one]
 have ak:∀W:World,(Instr.makeSlice 47 (.int .i64 (n:Int)) (.int .i64 (n:Int))).run prog W=.ok (.slice (some ⟨W.heap.size,0,none⟩) n n) (W.alloc (.cells Z 161)):=λW=>by
  rw [<-hZ];exact zaW _ _ i0 _ underlying47 af an _ _ n n (Nat.le_refl _) (by rw [ap];omega) om9 W
 clear hZ hA hD B CC hz;go_enter func208,ntmps208;go_wp2_with fail;generalize hW:((w.alloc (.cells #[.slice A n c] 49)).alloc (.cells #[.slice D m d] 49)).alloc (.cells #[.slice none 0 0] 49)=W0;obtain⟨b1,b2,b3,b4,b5⟩:=zbs w 49 49 49 #[.slice A n c] #[.slice D m d] #[.slice none 0 0];rw [hW] at b1 b2 b3 b4 b5;have g1:W0.cell? ⟨w.heap.size,0,none⟩=some (.slice A n c):=b2.cell 0;have g2:W0.cell? ⟨w.heap.size+1,0,none⟩=some (.slice D m d):=b3.cell 0;clear hW b2 b3;refine(HC.out _ b1).mono ?_;rintro e w1 ⟨rfl,hb⟩;have hB:=zac b1 hb;have hk:=zad hb b4;have g3:=zae hb g1;have g4:=zae hb g2;have al:=hb.size;clear hb g1 g2 b1 b4;go_wp2_with fail;refine(zbK x _ _ _ _).mono ?_;rintro e w2 ⟨rfl,hb⟩;have hB:=zac hB hb;have hk:=zad hb hk;have g1:=zae hb g3;have g2:=zae hb g4;have am:=hb.size;have hgs:w.heap.size+3<=w2.heap.size:=om9;clear hb g3 g4 al am b5;go_wp2_with fail;have H:=Blk.new w2 161 Z;have hB:=zaj (.cells Z 161) hB;have hk:=hk.alloc (.cells Z 161);have g1:=zap (.cells Z 161) g1;have g2:=zap (.cells Z 161) g2;generalize w2.alloc (.cells Z 161)=W1 at*;generalize w2.heap.size=gs at*;clear ak
 go_loopg [7,8,19] (n + 1) (fun g v _ i wr => ∃ (k cc : Nat) (cs : Array Value) (out : List Nat),k ≤ n ∧ n < g + k ∧ i = .int .i64 k ∧ v = .int .u64 cc ∧ SubB x y k out cc ∧ cs.size = n ∧ cs.toList.take k = zaw .u64 out ∧ Blk wr gs 161 cs ∧
   Below w.heap.size w wr/\wr.cell? ⟨w.heap.size,0,none⟩=some (.slice A n c)/\wr.cell? ⟨w.heap.size+1,0,none⟩=some (.slice D m d)/\Blk wr (w.heap.size+1+1) 49 #[.slice none 0 0])
 case atStart=>exact⟨0,0,Z,[],om9,om9,rfl,rfl,SubB.start x y,HZ.out,rfl,H,hB,g1,g2,hk⟩
 case round=>
  clear hB g1 g2 hk H;obtain⟨k,cc,cs,out,hk,hg,rfl,rfl,f,hsz,s,l,hB,g1,g2,j⟩:=hrel;have ae:=f.lack;by_cases hlt:k<n
  ·have r:=λd c'=>f.step (d:=d) (c':=c');have I:=zcu x k;have J:=zcu y k;have F:=(HA.out wr hB).1;obtain⟨ad,rfl,K,hx⟩:=zbF F hlt;have hadw:ad.block<w.heap.size:=by
    obtain⟨ad',e,aa,_⟩:=(HA.out w (Below.refl _ _)).1.2 om9;cases e;exact aa
   rw [zey] at hx;have WY:=up9 w (λw' h=>zdH y D m d k w' (HD.out w' h));obtain⟨a,ha⟩:∃a,wd x k=a:=⟨_,rfl⟩;obtain⟨b,hb⟩:∃a,wd y k=a:=⟨_,rfl⟩;rw [ha] at hx I r;rw [hb] at WY J r;obtain⟨s1,s2,e1,e2,e3,e4,e5⟩:=zlU I J ae;have WA:∀w',Calls prog 218 #[.int .u64 a,.int .u64 b,.int .u64 cc] w' λe R=>e=.returned (.tuple #[.int .u64 (s1:Int),.int .u64 (s2:Int)])/\w'=R:=λw'=>by
    rw [<-e1,<-e2];exact znK a b cc ⟨om9,om9⟩ ⟨om9,om9⟩ ⟨om9,om9⟩ w'
   have U:=lh9 (r s1 s2 e3 e4 e5);have C:=lh9 hsz;have V:=lh9 s;have X:=lh9 WA;obtain⟨u,hu⟩:∃u,cs[k]?=some u:=⟨cs[k]' om9,Array.getElem?_eq_getElem om9⟩;have HU:=lh9 hu;clear WA r ha hb e1 e2 e3 e4 e5 f s hu hsz F K;have i1:(0:Int)<=(k:Int):=om9;have i2:(k:Int)<(n:Int):=om9;go_wp2_with fail;have M:=hB.drew;have N:=j.drew;have ab:=l.drew;have Q:wr.drew.cell? (ad.add k)=some (.int .u64 a):=hx
   go_region_held3 (fun w' => Below w.heap.size w w' ∧ w'.cell? ⟨w.heap.size,0,none⟩ = some (.slice (some ad) n c) ∧ w'.cell? ⟨w.heap.size + 1,0,none⟩ = some (.slice D m d) ∧ Blk w' (w.heap.size + 1 + 1) 49 #[.slice none 0 0] ∧ w'.cell? (ad.add k) = some (.int .u64 a))
    (first|(exact⟨M,g1,g2,N,Q⟩)|(go_split_ands;(repeat' apply And.intro);all_goals (first|exact as9|exact zac as9 hb|exact zae hb as9|exact zad hb as9|exact zaj _ as9|exact zap _ as9|exact Blk.alloc as9 _|exact zag _ (by simp;omega) as9|exact zai _ (by simp;omega) as9|exact zai _ (by rw [zan];simp;omega) as9|exact Blk.far as9 (by simp;omega) _)))
    (first
      |(go_at_call 172;with_reducible refine(WY.out _ (by first|exact as9|exact And.left as9)).mono ?_;rintro e w' ⟨rfl,hb⟩;have o:Blk w' gs 161 cs:=zad hb as9;have q1:=(o.cell k).trans HU.out;have q2:=o.frozen k)
      |(go_at_call 218;with_reducible refine(X.out _).mono ?_;rintro e R ⟨rfl,rfl⟩))
   rename_i hH
   obtain⟨Y,g3,g4,ag,_⟩:=hH;have ah:=o.set_ k (.int .u64 s1);clear hb o q1 q2 M N ab hB g1 g2 j l hx Q;go_wp2;go_roundg (n - k)
   case measure=>omega
   case rel=>exact⟨k+1,s2,_,_,om9,om9,by go_num,rfl,U.out,by simpa using C.out,by rw [zjD _ _ _ (by have:=C.out;omega),V.out,zeS],ah,Y,g3,g4,ag⟩
  ·have ai:k=n:=om9;subst ai;have e:=f.done S.out (by have:=aj.out;omega);have O:out.length=k:=f.len;have T:=zfE (some ⟨gs,0,none⟩) k k wr.heap.size out wr (zdt l hsz s O) f.dgs (Nat.le_refl _) om9 om9;rw [e] at T;have HT:=lh9 T;have ac:wr.cell? ⟨w.heap.size+1+1,0,none⟩=some (.slice none 0 0):=j.cell 0;have hf1:=j.frozen 0;clear T l hsz s f e O j g1 g2;go_wp2_with fail;refine HT.out.mono ?_;rintro e w2 ⟨A1,c1,rfl,P,h1,h2,E,rfl⟩;have G:=zgh hB (p:=w.heap.size+1+1) (gs:=gs) om9 om9 P h1 h2 E om9 (.slice A1 (dg 18446744073709551616 (x - y)).length c1);have HG:Hid (zfV w (x - y) true (.returned (.tuple #[.agg #[.slice A1 (dg 18446744073709551616 (x - y)).length c1],.bool true])) (wr.setCell ⟨w.heap.size+1+1,0,none⟩ (.slice A1 (dg 18446744073709551616 (x - y)).length c1))):=⟨_,_,_,rfl,G.2.1,G.1,G.2.2⟩;clear G P h1 h2 E;obtain⟨L,hL⟩:∃L,(dg 18446744073709551616 (x - y)).length=L:=⟨_,rfl⟩;rw [hL] at HG⊢;clear hL;go_wp2;refine bodyPost_ret (v:=.tuple #[.agg #[.slice A1 L c1],.bool true]) (by simp [results,results208,go_sem,ac]) rfl ?_;exact HG.out
def zdi (w:World)(x:Nat)(e:Ending)(w':World):Prop:=∃(A:oA9) (n c:Nat),e=.returned (.agg #[.slice A n c])/\zaf w' x A n c/\Below w.heap.size w w'
def zkV (w:World)(x y:Nat)(e:Ending)(w':World):Prop:=∃(A:oA9) (n c:Nat) (B:oA9) (m d:Nat),e=.returned (.tuple #[.agg #[.slice A n c],.agg #[.slice B m d]])/\zaf w' x A n c/\zaf w' y B m d/\Below w.heap.size w w'
theorem Sz.gcd {K K' x y:Nat}(h:Sz K x)(h':Sz K' y):Sz (K+K') (Nat.gcd x y):=by
 rcases Nat.eq_zero_or_pos x with e|e
 ·rw [e,Nat.gcd_zero_left];exact h'.up om9
 ·exact(h.of_le (Nat.gcd_le_left y e)).up om9
structure GcdC:Prop where
 of:∀(x y:Nat) (A D:oA9) (n m c d:Nat) (w:World),zaf w x A n c->zaf w y D m d->n<=1073741824->m<=1073741824->zam w->Calls prog 170 #[.agg #[.slice A n c],.agg #[.slice D m d]] w (zdi w (Nat.gcd x y))
 reduce:∀(x y:Nat) (A D:oA9) (n m c d:Nat) (w:World),zaf w x A n c->zaf w y D m d->n<=1073741824->m<=1073741824->zam w->Calls prog 122 #[.agg #[.slice A n c],.agg #[.slice D m d]] w (zkV w (x / Nat.gcd x y) (y / Nat.gcd x y))
def zcz (w:World)(t:TypeId)(g cap n:Nat)(L:List Nat):Prop:=
 ∃cur,Blk w g t cur/\n<=cap/\cap<=maxLen/\cur.size=cap/\L.length=n/\cur.toList.take n=zaw .u8 L
section
variable {w w':World}{t:TypeId}{g cap n:Nat}{L:List Nat}
theorem zcz.len (h:zcz w t g cap n L):L.length=n:=by obtain⟨_,_,_,_,_,h,_⟩:=h;exact h
theorem zcz.room (h:zcz w t g cap n L):n<=cap/\cap<=maxLen:=by obtain⟨_,_,h,h2,_⟩:=h;exact⟨h,h2⟩
theorem zcz.lt (h:zcz w t g cap n L):g<w.heap.size:=by obtain⟨_,h,_⟩:=h;exact h.lt
theorem zcz.cell (h:zcz w t g cap n L)(k:Nat)(hk:k<n):w.cell? ⟨g,k,none⟩=some (.int .u8 (L.getD k 0:Nat)):=by
 obtain⟨cur,hb,h1,h2,h3,h4,h5⟩:=h;rw [hb.cell k,<-Array.getElem?_toList,<-zcO .u8 L k om9,<-h5,List.getElem?_take,if_pos hk]
theorem zcz.frozen (h:zcz w t g cap n L)(k:Nat):w.frozen? ⟨g,k,none⟩=false:=by
 obtain⟨cur,hb,_⟩:=h;exact hb.frozen k
theorem zcz.set_ (h:zcz w t g cap n L)(k d:Nat)(hk:k<n):zcz (w.setCell ⟨g,k,none⟩ (.int .u8 (d:Int))) t g cap n (L.set k d):=by
 obtain⟨cur,hb,h1,h2,h3,h4,h5⟩:=h;refine⟨_,hb.set_ k _,h1,h2,by simpa using h3,by simpa using h4,?_⟩;rw [Array.toList_setIfInBounds,List.take_set,h5];unfold zaw;rw [List.map_set]
theorem zcz.below {B:Nat}(h:zcz w t g cap n L)(hb:Below B w w')(hg:g<B):zcz w' t g cap n L:=by
 obtain⟨a,h0,h1⟩:=h;exact⟨a,h0.below hb hg,h1⟩
theorem zcz.keep (h:zcz w t g cap n L)(hb:Below w.heap.size w w'):zcz w' t g cap n L:=h.below hb h.lt
theorem zcz.drew (h:zcz w t g cap n L):zcz w.drew t g cap n L:=h
theorem zcz.alloc (h:zcz w t g cap n L)(o:Obj):zcz (w.alloc o) t g cap n L:=by
 obtain⟨a,h0,h1⟩:=h;exact⟨a,h0.alloc o,h1⟩
theorem zcz.far (h:zcz w t g cap n L){p:Addr}(hp:g≠p.block)(u:Value):zcz (w.setCell p u) t g cap n L:=by
 obtain⟨a,h0,h1⟩:=h;exact⟨a,h0.far hp u,h1⟩
theorem zcz.reads (h:zcz w t g cap n L):zav w w.heap.size 1 (some ⟨g,0,none⟩) n (zaw .u8 L):=by
 have hl:=h.lt;have hc:=h.cell;have hn:=h.len;refine⟨by rw [zaG];omega,λ_=>⟨_,rfl,hl,λj u hu=>?_⟩⟩;have hj:j<L.length:=by
  rcases Nat.lt_or_ge j L.length with hj|hj
  ·exact hj
  ·rw [List.getElem?_eq_none (by rw [zaG];exact hj)] at hu;cases hu
 have e:(⟨g,0,none⟩:Addr).add j=⟨g,j,none⟩:=by unfold Addr.add;split<;>simp_all
 rw [e,hc j om9,<-zcO .u8 L j hj,hu]
theorem zcz.own (h:zcz w t g cap n L){base:Nat}(hb:base<=g):w.ownsRow base t 1 (.slice (some ⟨g,0,none⟩) n cap) n (zaw .u8 L):=by
 obtain⟨a,h0,h1,h2,h3,h4,h5⟩:=h;exact⟨by rw [zaG];omega,.inr ⟨g,cap,a,rfl,hb,h0,h1,h2,om9,by rw [Nat.mul_one];exact h5⟩⟩
theorem zcz.made (w:World)(t:TypeId)(N:Nat)(hN:N<=maxLen):zcz (w.alloc (.cells (madeCells (Value.cells (.int .u8 0)) N) t)) t w.heap.size N N (List.replicate N 0):=by
 refine⟨_,Blk.new w t _,Nat.le_refl _,hN,size_madeCells _ _,si9,?_⟩;show(madeCells #[Value.int .u8 0] N).toList.take N=_;rw [toList_madeCells_one,List.take_of_length_le si9];simp [zaw]
theorem zcz.of_own {base:Nat}{v:Value}{l:List Nat}(h:w.ownsRow base t 1 v n (zaw .u8 l))(hn:0<n):∃g f,v=.slice (some ⟨g,0,none⟩) n f/\base<=g/\zcz w t g f n l:=by
 obtain⟨h1,h2⟩:=h;rcases h2 with⟨_,h⟩|⟨g,f,cur,e,hb,hk,a,b,c,d⟩
 ·omega
 ·refine⟨g,f,e,hb,cur,hk,a,b,om9,by rw [zaG] at h1;omega,?_⟩;rw [Nat.mul_one] at d;exact d
end
set_option linter.unusedSimpArgs false
structure zhv (w:World)(v:Value)(w':World)(v':Value):Prop where
 grown:w.grownBy w' v.ownBlock
 at_:v'.ownBlock=v.ownBlock\/∀g,v'.ownBlock=some g->w.heap.size<=g
theorem zhv.refl (w:World)(v:Value):zhv w v w v:=⟨World.grownBy.refl _ _,.inl rfl⟩
theorem zhv.alloc (w:World)(v:Value)(o:Obj):zhv w v (w.alloc o) v:=⟨World.grownBy_alloc w o _,.inl rfl⟩
theorem zhv.trans {w w1 w2:World}{v v1 v2:Value}(h:zhv w v w1 v1)(k:zhv w1 v1 w2 v2):zhv w v w2 v2:=by
 refine⟨⟨k.grown.os.trans h.grown.os,k.grown.tape.trans h.grown.tape,k.grown.output.trans h.grown.output,Nat.le_trans h.grown.size k.grown.size,λi hi a=>?_⟩,?_⟩
 ·refine(k.grown.block i (Nat.lt_of_lt_of_le hi h.grown.size) (λe=>?_)).trans (h.grown.block i hi a);rcases h.at_ with h1|h1
  ·exact a (by rw [e,h1])
  ·have:=h1 i e.symm;omega
 ·rcases k.at_ with k1|k1
  ·rw [k1];exact h.at_
  ·exact .inr λg hg=>Nat.le_trans h.grown.size (k1 g hg)
theorem zhv.below {w w':World}{v:Value}(hb:Below w.heap.size w w'):zhv w v w' v:=⟨⟨hb.os,hb.tape,hb.output,hb.size,λi hi _=>hb.block i hi⟩,.inl rfl⟩
def lowD (n p:Nat):List Nat:=(List.range n).map λk=>p / 10^k%10
theorem zmR (n p:Nat):(lowD n p).length=n:=by simp [lowD]
theorem zqv (n p:Nat):lowD (n+1) p=lowD n p++[p / 10^n%10]:=by simp [lowD,List.range_succ]
theorem lowD_dgs (n p:Nat):Dgs 10 (lowD n p):=by
 intro d hd;obtain⟨j,_,rfl⟩:=List.mem_map.1 hd;exact Nat.mod_lt _ de9
theorem zpx (p:Nat):∀n,dv 10 (lowD n p)=p%10^n
 |0=>by simp [lowD,dv,Nat.mod_one]
 |n+1=>by rw [zqv,zbC,zpx p n,zmR,zaU 10 p n]
theorem zmz (l:List Nat)(i k a:Nat):(l.set i a).getD k 0=if i=k/\k<l.length then a else l.getD k 0:=by
 simp only [List.getD_eq_getElem?_getD,List.getElem?_set];by_cases h:i=k
 ·subst h;by_cases h2:i<l.length
  ·simp [h2]
  ·simp [h2]
 ·simp [h]
def ziA (L:List Nat)(i:Nat)(M:List Nat):Prop:=M.length=L.length/\∀j,j<L.length->M.getD j 0=if j<i\/L.length<=j+i then L.getD (L.length - 1 - j) 0 else L.getD j 0
theorem ziA.start (L:List Nat):ziA L 0 L:=⟨rfl,λj hj=>by rw [if_neg om9]⟩
theorem ziA.step {L M:List Nat}{i j:Nat}(h:ziA L i M)(hij:i+j+1=L.length)(hlt:i<j):ziA L (i+1) ((M.set i (M.getD j 0)).set j (M.getD i 0)):=by
 obtain⟨h1,h2⟩:=h;refine⟨by simpa using h1,λk hk=>?_⟩;rw [zmz,zmz,List.length_set,h1];by_cases hkj:j=k
 ·subst hkj;rw [if_pos ⟨rfl,hk⟩,if_pos om9,h2 i om9,if_neg om9];congr 1;omega
 ·rw [if_neg om9];by_cases hki:i=k
  ·subst hki;rw [if_pos ⟨rfl,hk⟩,if_pos om9,h2 j om9,if_neg om9];congr 1;omega
  ·rw [if_neg om9,h2 k hk];by_cases hc:k<i\/L.length<=k+i
   ·rw [if_pos hc,if_pos om9]
   ·rw [if_neg hc,if_neg om9]
theorem ziA.done {L M:List Nat}{i j:Nat}(h:ziA L i M)(hij:i+j+1=L.length)(hle:j<=i):M=L.reverse:=by
 obtain⟨h1,h2⟩:=h;refine List.ext_getElem (by simpa using h1) λk hk hk2=>?_;have h3:=h2 k om9;rw [List.getD_eq_getElem?_getD,List.getElem?_eq_getElem hk] at h3;rw [List.getElem_reverse];have e1:L[L.length - 1 - k]' om9=L.getD (L.length - 1 - k) 0:=by rw [List.getD_eq_getElem?_getD,List.getElem?_eq_getElem om9];rfl
 rw [e1];refine Eq.trans h3 ?_;by_cases hc:k<i\/L.length<=k+i
 ·rw [if_pos hc]
 ·rw [if_neg hc];congr 1;omega
theorem Off.drew {g:Nat}{w w':World}(h:Off g w w'):Off g w w'.drew:=⟨h.os,h.tape,h.output,h.size,h.block⟩
