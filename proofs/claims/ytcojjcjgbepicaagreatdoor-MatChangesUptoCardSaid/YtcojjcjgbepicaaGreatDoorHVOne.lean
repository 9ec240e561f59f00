/- What this claim leans on. -/
import Derived.Test.YtcojjcjgbepicaaGreatDoorHMArgs
import Derived.Test.YtcojjcjgbepicaaGreatDoorHJ8Make
namespace Go.Proofs.YtcojjcjgbepicaaGreatDoor
open Go Go.RowKit Go.Proofs.Tryz
set_option maxHeartbeats 16000000
set_option maxRecDepth 100000
set_option linter.unusedVariables false
set_option linter.unusedSimpArgs false
theorem zmI {p:Int}{w:World}(hT:zam w)(hp:zbm p):
  Calls prog 64 #[.agg #[.int .i64 p,.int .i64 0]] w (zaP w (qOf p 0)):=by
 rw [znj];obtain⟨g,h⟩:=hp;have HT:=up9 w (λw' hb=>hT.on hb);obtain⟨b,c,d,bz⟩:=zbg w 26 53 #[.int .i64 p,.int .i64 0] #[.bool false,.slice none 0 0,.slice none 0 0];obtain⟨g0,g1⟩:=c.c2;have HB:=lh9 b;have HK:=lh9 d;clear hT b c d bz;go_enter func64,ntmps64;go_wp2_with fail;clear g0 g1;(with_reducible refine(zlO p _ (HT.out _ HB.out) g h).mono ?_);rintro e w2 ⟨b2,A2,n2,c2,E2,k2,f2,rfl,f,hb⟩;have a:=zad hb HK.out;obtain⟨sc0,sf0,sc1,sf1,sc2,sf2⟩:=st3 a (.bool b2) (.slice A2 n2 c2);obtain⟨r0,r1,r2⟩:=(sn3 a (.bool b2) (.slice A2 n2 c2) (.slice E2 k2 f2)).c3;have HG:=lh9 (gq3 f a (zac HB.out hb) om9);clear hb a f HB HK;go_wp2;refine bodyPost_ret (v:=.agg #[.bool b2,.slice A2 n2 c2,.slice E2 k2 f2]) (by simp [results,results64,go_sem,r0,r1,r2]) rfl ?_;exact HG.out
theorem zmJ {p q:Int}{w:World}(hT:zam w)(hp:zbm p)(hq:zbm q)(h0:q≠0):
  Calls prog 64 #[.agg #[.int .i64 p,.int .i64 q]] w (zaP w (qOf p q)):=by
 rw [qOf_ne h0];obtain⟨h,i⟩:=hp;obtain⟨j,k⟩:=hq;have H0:=lh9 h0;have hd0:(q==0)=false:=by rw [beq_eq_false_iff_ne];exact h0
 have HT:=up9 w (λw' hb=>hT.on hb);obtain⟨b,c,d,bz⟩:=zbg w 26 53 #[.int .i64 p,.int .i64 q] #[.bool false,.slice none 0 0,.slice none 0 0];obtain⟨g0,g1⟩:=c.c2;have HB:=lh9 b;have HK:=lh9 d;clear hT b c d bz h0;go_enter func64,ntmps64;go_wp2_with fail;clear g0 g1;(with_reducible refine(rat_of p q _ (HT.out _ HB.out) h i j k H0.out).mono ?_);rintro e w2 ⟨b2,A2,n2,c2,E2,k2,f2,rfl,f,hb⟩;obtain⟨s1,s2,s3⟩:=zaD w2 53 #[.bool b2,.slice A2 n2 c2,.slice E2 k2 f2];obtain⟨p0,p1,p2⟩:=s2.c3;have a:=zad s1 (zad hb HK.out);have g:=f.below s1;obtain⟨sc0,sf0,sc1,sf1,sc2,sf2⟩:=st3 a (.bool b2) (.slice A2 n2 c2);obtain⟨r0,r1,r2⟩:=(sn3 a (.bool b2) (.slice A2 n2 c2) (.slice E2 k2 f2)).c3;have HG:=lh9 (gq3 g a (zac (zac HB.out hb) s1) om9);clear hb a f g HB HK s1 s2 s3;go_wp2;refine bodyPost_ret (v:=.agg #[.bool b2,.slice A2 n2 c2,.slice E2 k2 f2]) (by simp [results,results64,go_sem,r0,r1,r2]) rfl ?_;exact HG.out
theorem zhE {p q:Int}{w:World}(hT:zam w)(hp:zbm p)(hq:zbm q):
  Calls prog 64 #[.agg #[.int .i64 p,.int .i64 q]] w (zaP w (qOf p q)):=by
 by_cases h0:q=0
 ·subst h0;exact zmI hT hp
 ·exact zmJ hT hp hq h0
def zcr (L:List (Int×Int)):List Rat:=L.map λq=>qOf q.1 q.2
theorem zpH {W:World}{A:oA9}{n c:Nat}{L:List (Int×Int)}(h:zaX W A n c L):zaI 1 (zcr L):=λx hx=>by
 obtain⟨q,hq,rfl⟩:=List.mem_map.1 hx;obtain⟨⟨h1,h2⟩,h3,h4⟩:=h.ints q hq;exact zoG h1 h2 h3 h4
theorem zcI (L:List (Int×Int)):(zcr L).length=L.length:=List.length_map _
def GivesM (w:World)(n:Nat)(xs:List Rat)(e:Ending)(w':World):Prop:=∃(A:oA9) (c:Nat),e=.returned (.slice A n c)/\zaL w' A n c xs/\(∀ad,A=some ad->w.heap.size<=ad.block)/\Below w.heap.size w w'
theorem zgB {A:oA9}{n c:Nat}{L:List (Int×Int)}{w:World}(hT:zam w)(h:zaX w A n c L):
  Calls prog 36 #[.slice A n c] w (GivesM w n (zcr L)):=by
 obtain⟨ac,ab,N,O,P⟩:=info_parts info10;have hn0:n<=1048576:=Nat.le_trans h.fits h.small;have HL:=lh9 h.len;have HG:Hid (∀k,k<n->zbm (L.getD k (0,0)).1/\zbm (L.getD k (0,0)).2/\∃ad,A=some ad/\ad.block<w.heap.size/\w.cell? (ad.add (k*2))=some (.int .i64 (L.getD k (0,0)).1)/\w.cell? (ad.add (k*2+1))=some (.int .i64 (L.getD k (0,0)).2)):=λk hk=>by
  have hl:=h.len;have e:L[k]?=some (L.getD k (0,0)):=by rw [List.getD_eq_getElem?_getD,List.getElem?_eq_getElem om9];rfl
  obtain⟨h1,h2⟩:=h.ints _ (List.mem_of_getElem? e);exact⟨h1,h2,h.row k _ e⟩
 have HS:Hid (∀k,k<n->zcr (L.take (k+1))=zcr (L.take k)++[qOf (L.getD k (0,0)).1 (L.getD k (0,0)).2]):=λk hk=>by
  have hl:=h.len;unfold zcr;rw [List.take_succ_eq_append_getElem om9,List.map_append,List.getD_eq_getElem?_getD,List.getElem?_eq_getElem om9];rfl
 have HT:=up9 w (λw' hb=>hT.on hb);unfold GivesM;clear h hT;have hB:=Below.refl w.heap.size w;go_enter func36,ntmps36;go_wp2_with fail
 go_loopg [3,4] (n+1) (λg sl ix wr=>∃(k:Nat) (v:Value) (vs:List Value),k<=n/\n<g+k/\ix=.int .i64 k/\v=sl/\zbD zak wr w.heap.size 53 v (zcr (L.take k)) vs/\Below w.heap.size w wr)
 case atStart=>exact⟨0,_,_,Nat.zero_le _,om9,rfl,rfl,zbD.nil _ _ _,hB⟩
 case round=>
  clear hB;obtain⟨k,v,vs,hkn,hg,rfl,rfl,a,hB⟩:=hrel;by_cases hlt:k<n
  ·obtain⟨d,f,ad,rfl,hadb,i,l⟩:=HG.out k hlt;have C:=lh9 (HS.out k hlt);obtain⟨q,hq⟩:∃q,L.getD k (0,0)=q:=⟨_,rfl⟩;rw [hq] at d f i l C;obtain⟨q1,q2⟩:=q;dsimp only at d f i l C;have i:=zae hB i;have l:=zfX (zae hB l);have aa:decide ((k:Int)<(n:Int))=true:=decide_eq_true om9;have i1:(0:Int)<=(k:Int):=om9;have i2:(k:Int)<(n:Int):=om9;have I:=lh9 a;have E:=lh9 hB;have S:=lh9 d;have T:=lh9 f;have o:(zcr (L.take k)).length=k:=by rw [zcI,List.length_take,HL.out];omega
   have G:=lh9 o;clear a hB d f hq o;go_wp2_with fail;(with_reducible refine(zhE (HT.out _ E.out) S.out T.out).mono ?_);rintro e w5 ⟨b5,B5,m5,d5,E5,u5,f5,rfl,M,hb⟩;obtain⟨t1,t2,_⟩:=zaD w5 53 #[.bool b5,.slice B5 m5 d5,.slice E5 u5 f5];obtain⟨ae,af,ag⟩:=t2.c3;have D:=zac hb t1;have a:=zbD.below zas I.out D;have HX:=lh9 (M.below t1);have HB:=lh9 (zac E.out D);have m:∀j u,[Value.bool b5,.slice B5 m5 d5,.slice E5 u5 f5][j]?=some u->(w5.alloc (.cells #[.bool b5,.slice B5 m5 d5,.slice E5 u5 f5] 53)).cell? ((⟨w5.heap.size,0,none⟩:Addr).add j)=some u:=λj u hu=>by
    rw [zaF]
    match j,hu with
    |0,hu=>simp at hu;subst hu;exact t2.cell 0
    |1,hu=>simp at hu;subst hu;exact t2.cell 1
    |2,hu=>simp at hu;subst hu;exact t2.cell 2
   have B:=lh9 m;have J:Hid (∀u ∈ [Value.bool b5,.slice B5 m5 d5,.slice E5 u5 f5],u.oneCell'=true):=by intro u hu;simp at hu;rcases hu with rfl|rfl|rfl<;>rfl
   have U:Hid (∀u ∈ [Value.bool b5,.slice B5 m5 d5,.slice E5 u5 f5],zgi u):=by intro u hu y z;simp at hu;rcases hu with rfl|rfl|rfl<;>(intro h9;cases h9)
   have Y:Hid (∀u ∈(Value.agg #[.bool false,.slice none 0 0,.slice none 0 0]).cells.toList,zgi u):=by intro u hu y z;simp [Value.cells] at hu;rcases hu with rfl|rfl<;>(intro h9;cases h9)
   have F:Hid (w.heap.size<=(w5.alloc (.cells #[.bool b5,.slice B5 m5 d5,.slice E5 u5 f5] 53)).heap.size):=HB.out.size;have s:=a.own;rw [G.out] at s;have K:=lh9 s;have H:=lh9 a.nou;have X:=lh9 a;have V:=lh9 (λr (h:v.ownBlock=some r)=>a.own.lt r h);clear hb D M m a t1 t2 i l ae af ag s;go_wp2_with (at_builtin;go_loud (refine zdp _ rfl (.tmp 11) (.tmp 17) 71 rfl w.heap.size 53 ac (.agg #[.bool false,.slice none 0 0,.slice none 0 0]) 3 56 underlying71 ab N O P rfl de9 v k vs rfl K.out ⟨w5.heap.size,0,none⟩ 1 1 [.bool b5,.slice B5 m5 d5,.slice E5 u5 f5] rfl rfl B.out J.out (by unfold maxLen;omega) om9 F.out H.out Y.out U.out ?_;intro v' w8 t b Z p;have x:=lh9 (zbD.grow (n:=k+1) zas X.out HX.out t (by rw [G.out]) b p);have R:=lh9 (HB.out.grown b F.out (λr hr=>(V.out r hr).1));clear t b Z p));rw [<-C.out] at x;go_roundg (n - k)
   case measure=>omega
   case rel=>exact⟨k+1,_,_,om9,om9,by go_num,rfl,x.out,R.out⟩
  ·have aa:decide ((k:Int)<(n:Int))=false:=decide_eq_false om9;have hk:k=n:=om9;subst hk;rw [List.take_of_length_le (by rw [HL.out];exact Nat.le_refl _)] at a;have o:(zcr L).length=k:=by rw [zcI];exact HL.out
   obtain⟨A1,c1,rfl,hv,hf⟩:=a.shape;rw [o] at hv⊢;have HV:=lh9 hv;have HF:=lh9 hf;have Q:=lh9 hB;clear a hv hB o hf;go_wp2;go_ret;exact⟨A1,c1,rfl,HV.out,HF.out,Q.out⟩
theorem zns {w:World}{z:Int}{b:Bool}{A:oA9}{n c:Nat}{F:oA9}{k f:Nat}(h:zcs w z b A n c)(h1:zal w 1 F k f):zbZ w (z:Rat) b A n c F k f:=⟨by rw [Rat.num_intCast];exact h,by rw [Rat.den_intCast];exact h1⟩
theorem zmQ {m:Nat}:(#[Value.int .u64 (m:Int)]:Array Value).toList=zaw .u64 [m]:=rfl
theorem zpt (m:Nat):dv 18446744073709551616 [m]=m:=by simp [dv]
theorem zmq {m:Nat}(h:m<18446744073709551616):Dgs 18446744073709551616 [m]:=by intro d hd;simp at hd;omega
theorem znp (m:Nat)(r:Rat)(hr:((m:Int):Rat)=r)(w:World)(hm:m<=9223372036854775807):
  Calls prog 78 #[.int .i64 (m:Int)] w (zcQ w r):=by
 have hd0:decide ((m:Int)<0)=false:=decide_eq_false om9;have hw1:IntKind.u64.wrap (m:Int)=(m:Int):=by rw [IntKind.wrap_u64];omega
 have HZ:Hid (Sz 1 m):=by show m<18446744073709551616^1;rw [Nat.pow_one];omega
 have HM:Hid (m<18446744073709551616):=by show _<_;omega
 have HR:=lh9 hr;obtain⟨y1,y2,y3,-⟩:=zbg w 60 161 #[.bool false,.slice none 0 0,.slice none 0 0] #[.int .u64 (m:Int)];have HB:=lh9 y1;have HK:=lh9 y2;have HL:=lh9 y3;clear y1 y2 y3 hm hr;go_enter func78,ntmps78;go_wp2_with fail;generalize (w.alloc (.cells #[.bool false,.slice none 0 0,.slice none 0 0] 60)).alloc (.cells #[.int .u64 (m:Int)] 161)=W1 at*;(with_reducible refine(zpL #[.int .u64 (m:Int)] [m] _ _ 1 m HL.out rfl zmQ (zmq HM.out) (zpt m) de9).mono ?_);intro e w1 hg;obtain⟨C1,r1,f1,rfl,hh,c,hb⟩:=hg.elim2;have g:=lh9 (c.from_ HB.out);have HB:=lh9 (zac HB.out hb);have HK:=lh9 (zad hb HK.out);have HH:=lh9 hh;clear hb hg hh HL c;go_wp2_with fail;(with_reducible refine(zdx false m C1 r1 f1 _ HH.out (szh HZ HH.out)).mono ?_);rintro e w2 ⟨b2,rfl,hz,hb⟩;have b:=zac HB.out hb;have d:=zad hb HK.out;obtain⟨s1,s2,-⟩:=zaD w2 3 #[.int .i64 1];have h1:=zed s2;have f:zcs (w2.alloc (.cells #[.int .i64 1] 3)) (m:Int) b2 C1 r1 f1:=by
  have e:sgI false m=(m:Int):=by unfold sgI;simp
  rw [<-e];exact hz.below s1
 have hq:=zns f h1;rw [HR.out] at hq;have a:=zad s1 d;obtain⟨sc0,sf0,sc1,sf1,sc2,sf2⟩:=st3 a (.bool b2) (.slice C1 r1 f1);obtain⟨r0,h,r2⟩:=(sn3 a (.bool b2) (.slice C1 r1 f1) (.slice (some ⟨w2.heap.size,0,none⟩) 1 1)).c3;have HG:=lh9 (gr3f hq a (zac b s1) (Nat.le_refl _) g.out (λad e9=>by injection e9 with e9;subst e9;exact b.size));clear hz hb b d s1 s2 h1 f hq a HB HK HH;go_wp2;refine bodyPost_ret (v:=.agg #[.bool b2,.slice C1 r1 f1,.slice (some ⟨w2.heap.size,0,none⟩) 1 1]) (by simp [results,results78,go_sem,r0,h,r2]) rfl ?_;exact HG.out
theorem znq (m:Nat)(r:Rat)(hr:((-(m:Int):Int):Rat)=r)(w:World)(h0:0<m)(hm:m<=9223372036854775808):
  Calls prog 78 #[.int .i64 (-(m:Int))] w (zcQ w r):=by
 have hd0:decide (-(m:Int)<0)=true:=decide_eq_true om9;obtain⟨v,hv⟩:∃v,IntKind.u64.wrap (-(m:Int))=v:=⟨_,rfl⟩;have hw2:IntKind.u64.wrap (-v)=(m:Int):=by rw [<-hv,IntKind.wrap_u64,IntKind.wrap_u64];omega
 have HZ:Hid (Sz 1 m):=by show m<18446744073709551616^1;rw [Nat.pow_one];omega
 have HM:Hid (m<18446744073709551616):=by show _<_;omega
 have HR:=lh9 hr;obtain⟨y1,y2,y3,-⟩:=zbg w 60 161 #[.bool false,.slice none 0 0,.slice none 0 0] #[.int .u64 (m:Int)];have HB:=lh9 y1;have HK:=lh9 y2;have HL:=lh9 y3;clear y1 y2 y3 hm hr;go_enter func78,ntmps78;go_wp2_with fail;generalize (w.alloc (.cells #[.bool false,.slice none 0 0,.slice none 0 0] 60)).alloc (.cells #[.int .u64 (m:Int)] 161)=W1 at*;(with_reducible refine(zpL #[.int .u64 (m:Int)] [m] _ _ 1 m HL.out rfl zmQ (zmq HM.out) (zpt m) de9).mono ?_);intro e w1 hg;obtain⟨C1,r1,f1,rfl,hh,c,hb⟩:=hg.elim2;have g:=lh9 (c.from_ HB.out);have HB:=lh9 (zac HB.out hb);have HK:=lh9 (zad hb HK.out);have HH:=lh9 hh;clear hb hg hh HL c;go_wp2_with fail;(with_reducible refine(zdx true m C1 r1 f1 _ HH.out (szh HZ HH.out)).mono ?_);rintro e w2 ⟨b2,rfl,hz,hb⟩;have b:=zac HB.out hb;have d:=zad hb HK.out;obtain⟨s1,s2,-⟩:=zaD w2 3 #[.int .i64 1];have h1:=zed s2;have f:zcs (w2.alloc (.cells #[.int .i64 1] 3)) (-(m:Int)) b2 C1 r1 f1:=by
  have e:sgI true m=(-(m:Int)):=by unfold sgI;simp
  rw [<-e];exact hz.below s1
 have hq:=zns f h1;rw [HR.out] at hq;have a:=zad s1 d;obtain⟨sc0,sf0,sc1,sf1,sc2,sf2⟩:=st3 a (.bool b2) (.slice C1 r1 f1);obtain⟨r0,h,r2⟩:=(sn3 a (.bool b2) (.slice C1 r1 f1) (.slice (some ⟨w2.heap.size,0,none⟩) 1 1)).c3;have HG:=lh9 (gr3f hq a (zac b s1) (Nat.le_refl _) g.out (λad e9=>by injection e9 with e9;subst e9;exact b.size));clear hz hb b d s1 s2 h1 f hq a HB HK HH;go_wp2;refine bodyPost_ret (v:=.agg #[.bool b2,.slice C1 r1 f1,.slice (some ⟨w2.heap.size,0,none⟩) 1 1]) (by simp [results,results78,go_sem,r0,h,r2]) rfl ?_;exact HG.out
theorem zib {z:Int}{w:World}(hz:zbm z):Calls prog 78 #[.int .i64 z] w (zcQ w (z:Rat)):=by
 obtain⟨h1,h2⟩:=hz;by_cases h0:0<=z
 ·obtain⟨m,rfl⟩:=Int.eq_ofNat_of_zero_le h0;exact znp m _ rfl w om9
 ·obtain⟨m,hm⟩:∃m:Nat,z= -(m:Int):=⟨z.natAbs,om9⟩;subst hm;exact znq m _ rfl w om9 om9
theorem zkF {z:Int}{w:World}(hz:zbm z):Calls prog 78 #[.int .i64 z] w (zpm w (z:Rat)):=(zib hz).mono λ_ _ h=>h.old
theorem zpu (b:Bool)(A E:oA9)(n c k f:Nat)(W:World):Sem.run prog (Instr.field 60 (.agg #[.bool b,.slice A n c,.slice E k f]) 0) W=.ok (.agg #[.bool b,.slice A n c]) W:=by
 unfold Instr.field;simp [go_sem];rfl
theorem zoT {p:Int}{w:World}(hp:zbm p):Calls prog 100 #[.int .i64 p,.int .i64 0] w (zcQ w (qOf p 0)):=by
 rw [znj];obtain⟨b,c,-⟩:=zaD w 60 #[.bool false,.slice none 0 0,.slice none 0 0];have HB:=lh9 b;have HK:=lh9 c;have HP:=lh9 hp;clear b c hp;go_enter func100,ntmps100;go_wp2_with fail;(with_reducible refine(zib HP.out).mono ?_);rintro e w2 ⟨b2,A2,n2,c2,E2,k2,f2,rfl,hq,d,f,hb⟩;have a:=zad hb HK.out;obtain⟨sc0,sf0,sc1,sf1,sc2,sf2⟩:=st3 a (.bool b2) (.slice A2 n2 c2);obtain⟨r0,g,r2⟩:=(sn3 a (.bool b2) (.slice A2 n2 c2) (.slice E2 k2 f2)).c3;have HG:=lh9 (gr3f hq a (zac HB.out hb) (Nat.le_refl _) (d.from_ HB.out) (f.from_ HB.out));clear hb hq a HB HK d f;go_wp2;refine bodyPost_ret (v:=.agg #[.bool b2,.slice A2 n2 c2,.slice E2 k2 f2]) (by simp [results,results100,go_sem,r0,g,r2]) rfl ?_;exact HG.out
theorem zoU {p q:Int}{w:World}(hp:zbm p)(hq:zbm q)(h0:q≠0):Calls prog 100 #[.int .i64 p,.int .i64 q] w (zcQ w (qOf p q)):=by
 rw [qOf_ne h0];have hd0:(q==0)=false:=by rw [beq_eq_false_iff_ne];exact h0
 have H0:=lh9 h0;have g:=lh9 (zeQ hp.1 hp.2);have i:=lh9 (zeQ hq.1 hq.2);obtain⟨b,c,-⟩:=zaD w 60 #[.bool false,.slice none 0 0,.slice none 0 0];have HB:=lh9 b;have HK:=lh9 c;have HP:=lh9 hp;have HQ:=lh9 hq;clear b c hp hq h0;go_enter func100,ntmps100;go_wp2_with fail;(with_reducible refine(zkF HP.out).mono ?_);rintro e w2 ⟨b2,A2,n2,c2,E2,k2,f2,rfl,hx,hb⟩;have HX:Hid (zcs w2 p b2 A2 n2 c2):=by have h:=hx.1;rw [Rat.num_intCast] at h;exact h
 have HB:=lh9 (zac HB.out hb);have HK:=lh9 (zad hb HK.out);clear hb hx;have j:=λW=>zpu b2 A2 E2 n2 c2 k2 f2 W;go_wp2_with fail;clear j;(with_reducible refine(zkF HQ.out).mono ?_);rintro e w3 ⟨b3,A3,n3,c3,E3,k3,f3,rfl,hy,hb⟩;have HY:Hid (zcs w3 q b3 A3 n3 c3):=by have h:=hy.1;rw [Rat.num_intCast] at h;exact h
 have HX:=lh9 (HX.out.below hb);have HB:=lh9 (zac HB.out hb);have HK:=lh9 (zad hb HK.out);clear hb hy;have k:=λW=>zpu b3 A3 E3 n3 c3 k3 f3 W;go_wp2_with fail;clear k;(with_reducible refine(zoX p q b2 A2 n2 c2 b3 A3 n3 c3 1 1 _ g.out HX.out i.out HY.out de9 de9 H0.out).mono ?_);rintro e w4 ⟨b4,A4,n4,c4,E4,k4,f4,rfl,hq,d,f,hb⟩;have a:=zad hb HK.out;obtain⟨sc0,sf0,sc1,sf1,sc2,sf2⟩:=st3 a (.bool b4) (.slice A4 n4 c4);obtain⟨r0,l,r2⟩:=(sn3 a (.bool b4) (.slice A4 n4 c4) (.slice E4 k4 f4)).c3;have HG:=lh9 (gr3f hq a (zac HB.out hb) (Nat.le_refl _) (d.from_ HB.out) (f.from_ HB.out));clear hb hq a HB HK HX HY d f;go_wp2;refine bodyPost_ret (v:=.agg #[.bool b4,.slice A4 n4 c4,.slice E4 k4 f4]) (by simp [results,results100,go_sem,r0,l,r2]) rfl ?_;exact HG.out
theorem zoV {p q:Int}{w:World}(hp:zbm p)(hq:zbm q):Calls prog 100 #[.int .i64 p,.int .i64 q] w (zcQ w (qOf p q)):=by
 by_cases h0:q=0
 ·subst h0;exact zoT hp
 ·exact zoU hp hq h0
theorem zao:zbp zbZ where
 below h hb:=h.below hb
 offg h hk hcs ho:=⟨⟨h.1.1,ziV h.1.2 hk hcs ho⟩,ziV h.2 hk hcs ho⟩
abbrev zdk (w:World)(A:oA9)(n c:Nat)(xs:List Rat):Prop:=zaE zbZ w A n c xs
theorem zdk.keep {w w':World}{A:oA9}{n c:Nat}{xs:List Rat}(h:zdk w A n c xs)(hb:Below w.heap.size w w'):zdk w' A n c xs:=zaE.below zao h hb
theorem zdk.get {w wr:World}{A:oA9}{n c:Nat}{xs:List Rat}(h:zdk w A n c xs)(hb:Below w.heap.size w wr){i:Nat}(hi:i<n):∃(ad:Addr) (b:Bool) (B:oA9) (m d:Nat) (F:oA9) (u v:Nat),A=some ad/\ad.block<w.heap.size/\wr.cell? (ad.add (i*3))=some (.bool b)/\wr.cell? ⟨(ad.add (i*3)).block,(ad.add (i*3)).off+1,none⟩=some (.slice B m d)/\wr.cell? ⟨(ad.add (i*3)).block,(ad.add (i*3)).off+2,none⟩=some (.slice F u v)/\zbZ wr (xs.getD i 0) b B m d F u v:=by
 obtain⟨ad,b,B,m,d,F,u,v,e,h0,h1,h2,h3,h4⟩:=h.at_ hi 0;exact⟨ad,b,B,m,d,F,u,v,e,h0,zae hb h1,zae hb (zfX h2),zae hb (zle h3),h4.below hb⟩
def zkX (w:World)(n:Nat)(xs:List Rat)(e:Ending)(w':World):Prop:=∃(A:oA9) (c:Nat),e=.returned (.slice A n c)/\zdk w' A n c xs/\Below w.heap.size w w'
theorem zin:(prog.info? 60).map (λi=>(i.zero,i.size,i.bytes))=some (some (.agg #[.bool false,.slice none 0 0,.slice none 0 0]),3,56):=kr9
def RefF (lo:Nat):El Rat:=λw x b A n c F k f=>zbZ w x b A n c F k f/\(∀ad,A=some ad->lo<=ad.block)/\∀ad,F=some ad->lo<=ad.block
theorem zfM (lo:Nat):zbp (RefF lo):=⟨λh hb=>⟨zao.below h.1 hb,h.2⟩,λh hk a ho=>⟨zao.offg h.1 hk a ho,h.2⟩⟩
theorem zhM {α:Type}{E E':El α}{w:World}{A:oA9}{n c:Nat}{xs:List α}(h:zaE E w A n c xs)(hR:∀{x:α} {b:Bool} {A:oA9} {n c:Nat} {F:oA9} {k f:Nat},E w x b A n c F k f->E' w x b A n c F k f):zaE E' w A n c xs:=
 ⟨h.len,h.fits,h.most,λi x hi=>by
  obtain⟨ad,b,B,m,d,F,u,v,e,h1,h2,h3,h4,h5⟩:=h.num i x hi;exact⟨ad,b,B,m,d,F,u,v,e,h1,h2,h3,h4,hR h5⟩⟩
def zmg (w:World)(n:Nat)(xs:List Rat)(e:Ending)(w':World):Prop:=∃(A:oA9) (c:Nat),e=.returned (.slice A n c)/\zaE (RefF w.heap.size) w' A n c xs/\(∀ad,A=some ad->w.heap.size<=ad.block/\ad.block<w'.heap.size)/\Below w.heap.size w w'
theorem zew {A:oA9}{n c:Nat}{L:List (Int×Int)}{w:World}(h:zaX w A n c L):
  Calls prog 39 #[.slice A n c] w (zmg w n (zcr L)):=by
 obtain⟨Y,X,O,P,Q⟩:=info_parts zin;have hn0:n<=1048576:=Nat.le_trans h.fits h.small;have HL:=lh9 h.len;have HG:Hid (∀k,k<n->zbm (L.getD k (0,0)).1/\zbm (L.getD k (0,0)).2/\∃ad,A=some ad/\ad.block<w.heap.size/\w.cell? (ad.add (k*2))=some (.int .i64 (L.getD k (0,0)).1)/\w.cell? (ad.add (k*2+1))=some (.int .i64 (L.getD k (0,0)).2)):=λk hk=>by
  have hl:=h.len;have e:L[k]?=some (L.getD k (0,0)):=by rw [List.getD_eq_getElem?_getD,List.getElem?_eq_getElem om9];rfl
  obtain⟨h1,h2⟩:=h.ints _ (List.mem_of_getElem? e);exact⟨h1,h2,h.row k _ e⟩
 have HS:Hid (∀k,k<n->zcr (L.take (k+1))=zcr (L.take k)++[qOf (L.getD k (0,0)).1 (L.getD k (0,0)).2]):=λk hk=>by
  have hl:=h.len;unfold zcr;rw [List.take_succ_eq_append_getElem om9,List.map_append,List.getD_eq_getElem?_getD,List.getElem?_eq_getElem om9];rfl
 unfold zmg;clear h;have hB:=Below.refl w.heap.size w;go_enter func39,ntmps39;go_wp2_with fail
 go_loopg [3,4] (n+1) (λg sl ix wr=>∃(k:Nat) (v:Value) (vs:List Value),k<=n/\n<g+k/\ix=.int .i64 k/\v=sl/\zbD (RefF w.heap.size) wr w.heap.size 60 v (zcr (L.take k)) vs/\Below w.heap.size w wr)
 case atStart=>exact⟨0,_,_,Nat.zero_le _,om9,rfl,rfl,zbD.nil _ _ _,hB⟩
 case round=>
  clear hB;obtain⟨k,v,vs,hkn,hg,rfl,rfl,a,hB⟩:=hrel;by_cases hlt:k<n
  ·obtain⟨f,i,ad,rfl,hadb,t,u⟩:=HG.out k hlt;have C:=lh9 (HS.out k hlt);obtain⟨q,hq⟩:∃q,L.getD k (0,0)=q:=⟨_,rfl⟩;rw [hq] at f i t u C;obtain⟨q1,q2⟩:=q;dsimp only at f i t u C;have H:Hid (∀w',Below w.heap.size w w'->w'.cell? (ad.add (k*2))=some (.int .i64 q1)/\w'.cell? ⟨(ad.add (k*2)).block,(ad.add (k*2)).off+1,none⟩=some (.int .i64 q2)):=λw' hb=>⟨zae hb t,zfX (zae hb u)⟩;have V:decide ((k:Int)<(n:Int))=true:=decide_eq_true om9;have i1:(0:Int)<=(k:Int):=om9;have i2:(k:Int)<(n:Int):=om9;have E:=(Below.refl wr.heap.size wr).drew;have s:=lh9 (zbD.below (zfM _) a E);have HB:=lh9 (zac hB E);have S:=lh9 f;have T:=lh9 i;have l:(zcr (L.take k)).length=k:=by rw [zcI,List.length_take,HL.out];omega
   have I:=lh9 l;obtain⟨c0,c1⟩:=H.out _ hB;clear a f i hq l E t u hB;go_wp2_with fail;refine rg (csc c0 (csc c1 csn)) (λhHeld=>?_);clear c0 c1;generalize wr.drew=D at*;refine tk 0 ?_;refine tk 1 ?_;refine tk 2 ?_;refine tk 3 ?_;refine tk 4 ?_;refine tk 5 ?_;refine tk 6 ?_;refine tk 7 ?_;refine tk 8 ?_;refine tk 9 ?_;refine tk 10 ?_;refine rc 11 (λKK hK=>?_);go_simp;(with_reducible refine(zoV S.out T.out).mono ?_);rintro e w5 ⟨b5,B5,m5,d5,E5,u5,f5,rfl,N,K,M,hb⟩;refine hK.out _ _ (Cs.below hHeld hb) (λhHeld=>?_);clear hK KK;obtain⟨t1,t2,-⟩:=zaD w5 60 #[.bool b5,.slice B5 m5 d5,.slice E5 u5 f5];have F:=zac hb t1;have a:=zbD.below (zfM _) s.out F;have HX:=lh9 (show RefF w.heap.size _ _ _ _ _ _ _ _ _ from⟨N.below t1,K.from_ HB.out,M.from_ HB.out⟩);have HB:=lh9 (zac HB.out F);have j:=lh9 (zfe t2);have B:=lh9 HB.out.size;have o:=a.own;rw [I.out] at o;have z:=lh9 o;have x:=lh9 a.nou;have J:=lh9 (λr (h:v.ownBlock=some r)=>a.own.lt r h);have s:=lh9 a;have d:=Cs.below hHeld t1;clear hb F N K M a t1 t2 o;refine rc 12 (λKK hK=>?_);go_simp;refine hK.out _ _ d (λhHeld=>?_);clear hK KK d;refine rc 13 (λKK hK=>?_);refine zeA _ (.tmp 11) (.tmp 23) 80 rfl w.heap.size 60 Y (.agg #[.bool false,.slice none 0 0,.slice none 0 0]) 3 56 underlying80 X O P Q rfl de9 v k vs rfl z.out ⟨w5.heap.size,0,none⟩ 1 1 [.bool b5,.slice B5 m5 d5,.slice E5 u5 f5] rfl rfl j.out (zhe _ _ _ _ _ _ _) (by unfold maxLen;omega) om9 B.out x.out zeT (zhd _ _ _ _ _ _ _) ?_;intro v' w8 p b U m;have y:=lh9 (zbD.grow (n:=k+1) (zfM _) s.out HX.out p (by rw [I.out]) b m);have G:=lh9 (HB.out.grown b B.out (λr hr=>(J.out r hr).1));obtain⟨c0,c1⟩:=H.out _ G.out;refine hK.out _ _ (csc c0 (csc c1 csn)) (λhHeld=>?_);clear hK KK c0 c1 p b U m;refine tk 14 ?_;refine rdn ?_;clear hHeld s HX HB j B z x J;rw [<-C.out] at y;go_wp2;go_roundg (n - k)
   case measure=>omega
   case rel=>exact⟨k+1,_,_,om9,om9,by go_num,rfl,y.out,G.out⟩
  ·have V:decide ((k:Int)<(n:Int))=false:=decide_eq_false om9;have hk:k=n:=om9;subst hk;rw [List.take_of_length_le (by rw [HL.out];exact Nat.le_refl _)] at a;have l:(zcr L).length=k:=by rw [zcI];exact HL.out
   obtain⟨A1,c1,rfl,hv,hf⟩:=a.shape;have HF:=lh9 (λad (e9:A1=some ad)=>a.own.lt ad.block (by subst e9;rfl));rw [l] at hv⊢;have HV:=lh9 hv;have R:=lh9 hB;clear a hv hB l hf;go_wp2;go_ret;exact⟨A1,c1,rfl,HV.out,HF.out,R.out⟩
theorem zkm {A:oA9}{n c:Nat}{L:List (Int×Int)}{w:World}(h:zaX w A n c L):
  Calls prog 39 #[.slice A n c] w (zkX w n (zcr L)):=
 (zew h).mono λ_ _ ⟨A1,c1,e,h1,_,h3⟩=>⟨A1,c1,e,zhM h1 (λh=>h.1),h3⟩
def zhN (k:Nat)(f:Nat->Rat):Rat:=zdM ((List.range k).map f)
theorem zpc (rs:List Rat)(r:Rat):zdM (rs++[r])=zdM rs+r:=by
 unfold zdM;rw [List.foldl_append];rfl
theorem zkL (k:Nat)(f:Nat->Rat):zhN (k+1) f=zhN k f+f k:=by
 unfold zhN;rw [List.range_succ,List.map_append,List.map_cons,List.map_nil,zpc]
theorem zjA {k:Nat}{f g:Nat->Rat}(h:∀i,i<k->f i=g i):zhN k f=zhN k g:=by
 unfold zhN;congr 1;exact List.map_congr_left λi hi=>h i (List.mem_range.1 hi)
theorem zrf {k:Nat}{f:Nat->Rat}(h:∀i,i<k->f i=0):zhN k f=0:=by
 induction k with
 |zero=>rfl
 |succ k ih=>rw [zkL,ih (λi hi=>h i om9),h k om9,Rat.add_zero]
theorem zrg {k c:Nat}(hc:c<k)(f:Nat->Rat):zhN k (λi=>f i*(if i=c then 1 else 0))=f c:=by
 induction k with
 |zero=>omega
 |succ k ih=>
   rw [zkL];by_cases h:c=k
   ·subst h;rw [if_pos rfl,Rat.mul_one,zrf λi hi=>by rw [if_neg om9,Rat.mul_zero],Rat.zero_add]
   ·rw [if_neg om9,Rat.mul_zero,Rat.add_zero,ih om9]
theorem zqf:∀{k:Nat} {xs ys:List Rat},xs.length=k->ys.length=k->zgY xs ys=zhN k λi=>xs.getD i 0*ys.getD i 0
 |k,xs,ys,hx,hy=>by
   unfold zgY zhN;congr 1;apply List.ext_getElem
   ·simp [hx,hy]
   ·intro i h1 h2;have h3:i<k:=by simpa using h2
    rw [List.getElem_zipWith,List.getElem_map,List.getElem_range,List.getD_eq_getElem?_getD,List.getD_eq_getElem?_getD,List.getElem?_eq_getElem om9,List.getElem?_eq_getElem om9];rfl
def zbT (n m:Nat)(f:Nat->Nat->Rat):List (List Rat):=(List.range n).map λr=>(List.range m).map (f r)
def atM (M:List (List Rat))(r c:Nat):Rat:=(M.getD r []).getD c 0
structure zbG (M:List (List Rat))(n m:Nat):Prop where
 rows:M.length=n
 cols:∀L ∈ M,L.length=m
theorem zbG.row {M:List (List Rat)}{n m:Nat}(h:zbG M n m){r:Nat}(hr:r<n):(M.getD r []).length=m:=by
 have hl:=h.rows;rw [List.getD_eq_getElem?_getD,List.getElem?_eq_getElem om9];exact h.cols _ (List.getElem_mem _)
theorem zbU (n m:Nat)(f:Nat->Nat->Rat):zbG (zbT n m f) n m:=⟨by simp [zbT],λL hL=>by
 obtain⟨r,_,rfl⟩:=List.mem_map.1 hL;simp⟩
theorem znA {n m:Nat}{f:Nat->Nat->Rat}{r:Nat}(hr:r<n):(zbT n m f).getD r []=(List.range m).map (f r):=by
 unfold zbT;rw [List.getD_eq_getElem?_getD,List.getElem?_map,List.getElem?_range hr];rfl
theorem zjn {m c:Nat}{f:Nat->Rat}(hc:c<m):((List.range m).map f).getD c 0=f c:=by
 rw [List.getD_eq_getElem?_getD,List.getElem?_map,List.getElem?_range hc];rfl
theorem zdW {n m:Nat}{f:Nat->Nat->Rat}{r c:Nat}(hr:r<n)(hc:c<m):atM (zbT n m f) r c=f r c:=by
 unfold atM;rw [znA hr,zjn hc]
theorem zjB {n m:Nat}{f g:Nat->Nat->Rat}(h:∀r c,r<n->c<m->f r c=g r c):zbT n m f=zbT n m g:=by
 unfold zbT;exact List.map_congr_left λr hr=>List.map_congr_left λc hc=>h r c (List.mem_range.1 hr) (List.mem_range.1 hc)
theorem zoJ {m:Nat}{xs:List Rat}(h:xs.length=m):(List.range m).map (λc=>xs.getD c 0)=xs:=by
 subst h;apply List.ext_getElem
 ·simp
 ·intro i h1 h2;rw [List.getElem_map,List.getElem_range,List.getD_eq_getElem?_getD,List.getElem?_eq_getElem h2];rfl
theorem zbG.eq {M:List (List Rat)}{n m:Nat}(h:zbG M n m):zbT n m (atM M)=M:=by
 have hl:=h.rows;unfold zbT;apply List.ext_getElem
 ·simp [hl]
 ·intro i h1 h2;rw [List.getElem_map,List.getElem_range];have e:M.getD i []=M[i]:=by rw [List.getD_eq_getElem?_getD,List.getElem?_eq_getElem h2];rfl
  show(List.range m).map (λc=>(M.getD i []).getD c 0)=M[i];rw [e];exact zoJ (h.cols _ (List.getElem_mem h2))
theorem zbG.ext {A B:List (List Rat)}{n m:Nat}(hA:zbG A n m)(hB:zbG B n m)(h:∀r c,r<n->c<m->atM A r c=atM B r c):A=B:=by
 rw [<-hA.eq,<-hB.eq];exact zjB h
def zcD (n:Nat)(M:List (List Rat))(c:Nat):List Rat:=(List.range n).map λr=>atM M r c
theorem zcE (n:Nat)(M:List (List Rat))(c:Nat):(zcD n M c).length=n:=by simp [zcD]
theorem colM_at {n:Nat}{M:List (List Rat)}{c r:Nat}(hr:r<n):(zcD n M c).getD r 0=atM M r c:=zjn hr
def zba (n m:Nat)(M:List (List Rat)):List (List Rat):=zbT m n λr c=>atM M c r
theorem zkN {n m:Nat}{M:List (List Rat)}{r:Nat}(hr:r<m):(zba n m M).getD r []=zcD n M r:=znA hr
theorem zrm {M:List (List Rat)}{n m:Nat}(h:zbG M n m):zba m n (zba n m M)=M:=by
 rw [<-h.eq];exact zjB λr c hr hc=>by
  unfold zba;rw [zdW hc hr];rw [zdW hr hc]
def zhG (n k m:Nat)(A B:List (List Rat)):List (List Rat):=zbT n m λr c=>zgY (A.getD r []) (zcD k B c)
theorem zks (n k m:Nat)(A B:List (List Rat)):zbG (zhG n k m A B) n m:=zbU _ _ _
theorem mulM_at {n k m:Nat}{A B:List (List Rat)}(hA:zbG A n k){r c:Nat}(hr:r<n)(hc:c<m):atM (zhG n k m A B) r c=zhN k λi=>atM A r i*atM B i c:=by
 unfold zhG;rw [zdW hr hc,zqf (hA.row hr) (zcE k B c)];exact zjA λi hi=>by rw [colM_at hi];rfl
def oneM (n:Nat):List (List Rat):=zbT n n λr c=>if r=c then 1 else 0
theorem mul_oneM {n k:Nat}{A:List (List Rat)}(hA:zbG A n k):zhG n k k A (oneM k)=A:=by
 refine zbG.ext (zks _ _ _ _ _) hA λr c hr hc=>?_;rw [mulM_at hA hr hc];have h1:zhN k (λi=>atM A r i*atM (oneM k) i c)=zhN k (λi=>atM A r i*(if i=c then 1 else 0)):=zjA λi hi=>by unfold oneM;rw [zdW hi hc]
 rw [h1];exact zrg hc _
theorem zlY {n m:Nat}{M:List (List Rat)}{r c:Nat}(hr:r<m)(hc:c<n):atM (zba n m M) r c=atM M c r:=zdW hr hc
theorem zbO (n m:Nat)(M:List (List Rat)):zbG (zba n m M) m n:=zbU _ _ _
def byM (n m:Nat)(v:List Rat)(M:List (List Rat)):List Rat:=(List.range m).map λc=>zgY v (zcD n M c)
def zcj (M:List (List Rat))(v:List Rat):List Rat:=M.map λL=>zgY L v
theorem zkd:∀(xs ys:List Rat),zgY xs ys=zgY ys xs
 |[],[]=>rfl
 |[],_::_=>rfl
 |_::_,[]=>rfl
 |x::xs,y::ys=>by rw [zke,zke,zkd xs ys,Rat.mul_comm]
theorem zpg {n m:Nat}{M:List (List Rat)}{v:List Rat}:zcj (zba n m M) v=byM n m v M:=by
 unfold zcj byM zba zbT;rw [List.map_map];exact List.map_congr_left λc _=>zkd _ _
theorem zmr (m:Nat):zbG [] 0 m:=⟨rfl,λL hL=>by cases hL⟩
theorem zbG.snoc {M:List (List Rat)}{n m:Nat}{v:List Rat}(h:zbG M n m)(hv:v.length=m):zbG (M++[v]) (n+1) m:=⟨by rw [List.length_append,h.rows];rfl,λL hL=>by
 rcases List.mem_append.1 hL with hL|hL
 ·exact h.cols L hL
 ·rw [List.mem_singleton.1 hL];exact hv⟩
def znc (M:List (List Rat))(r:Nat):List (List Rat):=M.eraseIdx r
theorem zoz {M:List (List Rat)}{n:Nat}{v:List Rat}(h:M.length=n):znc (M++[v]) n=M:=by
 subst h;unfold znc;rw [List.eraseIdx_append_of_length_le (Nat.le_refl _),Nat.sub_self];simp
