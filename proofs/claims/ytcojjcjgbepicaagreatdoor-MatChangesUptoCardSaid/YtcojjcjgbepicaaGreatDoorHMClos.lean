/- What this claim leans on. -/
import Derived.Test.YtcojjcjgbepicaaGreatDoorHVTimes
namespace Go.Proofs.YtcojjcjgbepicaaGreatDoor
open Go Go.RowKit Go.Proofs.Tryz
set_option maxHeartbeats 16000000
set_option maxRecDepth 100000
set_option linter.unusedVariables false
set_option linter.unusedSimpArgs false
theorem gq0 {w w':World}{r:Rat}{b:Bool}{A E:oA9}{n c k f:Nat}(h:zak w' r b A n c E k f)(hb:Below w.heap.size w w'):zaP w r (.returned (.agg #[.bool b,.slice A n c,.slice E k f])) w':=⟨_,_,_,_,_,_,_,rfl,h,hb⟩
section
variable {A:oA9}{n c m:Nat}{M:List (List Rat)}{w:World}
theorem en_one1:∀(args:Array Value) (w':World),Sem.run prog (callFunc 119 args) w'=.ok (.enter 119 args) w':=Go.Proofs.enters_of func119 kr9 rfl
theorem cl_one (hT:zam w)(i j:Nat):Calls prog 119 #[.int .i64 (i:Int),.int .i64 (j:Int)] w (zaP w (if i=j then 1 else 0)):=by
 obtain⟨a,b,bz⟩:=zaD w 53 #[.bool false,.slice none 0 0,.slice none 0 0];by_cases hij:i=j
 ·have e0:((i:Int)==(j:Int))=true:=by rw [beq_iff_eq];omega
  rw [if_pos hij];have HT:=lh9 (hT.on a);have HB:=lh9 a;have HK:=lh9 b;clear hij a b bz hT;go_enter func119,ntmps119;go_wp2_with fail;(with_reducible refine(zlO 1 _ HT.out de9 de9).mono ?_);rintro e w3 ⟨b3,A3,n3,c3,E3,k3,f3,rfl,d,hb⟩;have c:=zad hb HK.out;obtain⟨sc0,sf0,sc1,sf1,sc2,sf2⟩:=st3 c (.bool b3) (.slice A3 n3 c3);obtain⟨r0,r1,r2⟩:=(sn3 c (.bool b3) (.slice A3 n3 c3) (.slice E3 k3 f3)).c3;have HG:Hid (zaP w 1 _ _):=gq3 (r:=1) d c (zac HB.out hb) (Nat.le_refl _);clear hb c d HB HK HT;go_wp2;refine bodyPost_ret (v:=.agg #[.bool b3,.slice A3 n3 c3,.slice E3 k3 f3]) (by simp [results,results119,go_sem,r0,r1,r2]) rfl ?_;exact HG.out
 ·have e0:((i:Int)==(j:Int))=false:=by rw [beq_eq_false_iff_ne];omega
  rw [if_neg hij];obtain⟨r0,r1,r2⟩:=b.c3;have HG:=lh9 (gq0 (zjs _) a);clear a b bz hij;go_enter func119,ntmps119;go_wp2;refine bodyPost_ret (v:=.agg #[.bool false,.slice none 0 0,.slice none 0 0]) (by simp [results,results119,go_sem,r0,r1,r2]) rfl ?_;exact HG.out
theorem en_copy1:∀(args:Array Value) (w':World),Sem.run prog (callFunc 73 args) w'=.ok (.enter 73 args) w':=Go.Proofs.enters_of func73 kr9 rfl
theorem cl_copy {g i j:Nat}(h:zaH w A n c m M)(hk:Blk w g 32 #[.slice A n c,.int .i64 (m:Int)])(hi:i<n)(hj:j<m):Calls prog 73 #[.int .i64 (i:Int),.int .i64 (j:Int),.pointer (some ⟨g,0,none⟩)] w (zaP w (atM M i j)):=by
 obtain⟨a,k,bz⟩:=zaD w 53 #[.bool false,.slice none 0 0,.slice none 0 0];obtain⟨ad,B,d,rfl,-,hc,ae,b1,B1,m1,d1,E1,u1,v1,rfl,-,h0,h1,h2,hq⟩:=h.place (Below.refl _ w) hi hj;obtain⟨g0,g1⟩:=(zad a hk).c2;obtain⟨hc,h0,h1,h2⟩:=zae4 a hc h0 h1 h2;have i1:(0:Int)<=(i:Int):=om9;have i2:(i:Int)<(n:Int):=om9;have i3:(0:Int)<=(j:Int):=om9;have i4:(j:Int)<(m:Int):=om9;obtain⟨b,f,-⟩:=zaD w 53 #[.bool b1,.slice B1 m1 d1,.slice E1 u1 v1];obtain⟨r0,r1,r2⟩:=f.c3;have HG:=lh9 (gq0 (hq.below b) b);clear hq a k bz b f h hk;go_enter func73,ntmps73;go_wp2;refine bodyPost_ret (v:=.agg #[.bool b1,.slice B1 m1 d1,.slice E1 u1 v1]) (by simp [results,results73,go_sem,r0,r1,r2]) rfl ?_;exact HG.out
theorem zof:∀(args:Array Value) (w':World),Sem.run prog (callFunc 72 args) w'=.ok (.enter 72 args) w':=Go.Proofs.enters_of func72 kr9 rfl
theorem zqb {g i j:Nat}(h:zaH w A n c m M)(hk:Blk w g 32 #[.slice A n c,.int .i64 (m:Int)])(hi:i<n)(hj:j<m):Calls prog 72 #[.int .i64 (j:Int),.int .i64 (i:Int),.pointer (some ⟨g,0,none⟩)] w (zaP w (atM M i j)):=by
 obtain⟨a,k,bz⟩:=zaD w 53 #[.bool false,.slice none 0 0,.slice none 0 0];obtain⟨ad,B,d,rfl,-,hc,ae,b1,B1,m1,d1,E1,u1,v1,rfl,-,h0,h1,h2,hq⟩:=h.place (Below.refl _ w) hi hj;obtain⟨g0,g1⟩:=(zad a hk).c2;obtain⟨hc,h0,h1,h2⟩:=zae4 a hc h0 h1 h2;have i1:(0:Int)<=(i:Int):=om9;have i2:(i:Int)<(n:Int):=om9;have i3:(0:Int)<=(j:Int):=om9;have i4:(j:Int)<(m:Int):=om9;obtain⟨b,f,-⟩:=zaD w 53 #[.bool b1,.slice B1 m1 d1,.slice E1 u1 v1];obtain⟨r0,r1,r2⟩:=f.c3;have HG:=lh9 (gq0 (hq.below b) b);clear hq a k bz b f h hk;go_enter func72,ntmps72;go_wp2;refine bodyPost_ret (v:=.agg #[.bool b1,.slice B1 m1 d1,.slice E1 u1 v1]) (by simp [results,results72,go_sem,r0,r1,r2]) rfl ?_;exact HG.out
theorem en_with1:∀(args:Array Value) (w':World),Sem.run prog (callFunc 132 args) w'=.ok (.enter 132 args) w':=Go.Proofs.enters_of func132 kr9 rfl
theorem cl_with {g gr gc gx i j r s:Nat}{x:Rat}{b1:Bool}{B1 E1:oA9}{m1 d1 u1 v1:Nat}(h:zaH w A n c m M)(hk:Blk w g 32 #[.slice A n c,.int .i64 (m:Int)])(p:Blk w gr 3 #[.int .i64 (r:Int)])(o:Blk w gc 3 #[.int .i64 (s:Int)])(k:Blk w gx 53 #[.bool b1,.slice B1 m1 d1,.slice E1 u1 v1])(hx:zak w x b1 B1 m1 d1 E1 u1 v1)(hi:i<n)(hj:j<m):
  Calls prog 132 #[.int .i64 (i:Int),.int .i64 (j:Int),.pointer (some ⟨gr,0,none⟩),.pointer (some ⟨gc,0,none⟩),.pointer (some ⟨gx,0,none⟩),.pointer (some ⟨g,0,none⟩)] w (zaP w (if i=r/\j=s then x else atM M i j)):=by
 obtain⟨b,l,bz⟩:=zaD w 53 #[.bool false,.slice none 0 0,.slice none 0 0];have y0:=(zad b p).c1;have y1:=(zad b o).c1;clear p o;by_cases h1:i=r
 ·have e1:((i:Int)==(r:Int))=true:=by rw [beq_iff_eq];omega
  by_cases h2:j=s
  ·have e2:((j:Int)==(s:Int))=true:=by rw [beq_iff_eq];omega
   rw [if_pos ⟨h1,h2⟩];obtain⟨p0,p1,p2⟩:=(zad b k).c3;have hq:=hx;clear h1 h2;obtain⟨a,f,-⟩:=zaD w 53 #[.bool b1,.slice B1 m1 d1,.slice E1 u1 v1];obtain⟨r0,r1,r2⟩:=f.c3;have HG:=lh9 (gq0 (hq.below a) a);clear hq b l bz a f h hk hx k;go_enter func132,ntmps132;go_wp2;refine bodyPost_ret (v:=.agg #[.bool b1,.slice B1 m1 d1,.slice E1 u1 v1]) (by simp [results,results132,go_sem,r0,r1,r2]) rfl ?_;exact HG.out
  ·have e2:((j:Int)==(s:Int))=false:=by rw [beq_eq_false_iff_ne];omega
   rw [if_neg (λq=>h2 q.2)];clear h1 h2;obtain⟨ad,B,d,rfl,-,hc,ae,b1,B1,m1,d1,E1,u1,v1,rfl,-,h0,h1,h2,hq⟩:=h.place (Below.refl _ w) hi hj;obtain⟨g0,g1⟩:=(zad b hk).c2;obtain⟨hc,h0,h1,h2⟩:=zae4 b hc h0 h1 h2;have i1:(0:Int)<=(i:Int):=om9;have i2:(i:Int)<(n:Int):=om9;have i3:(0:Int)<=(j:Int):=om9;have i4:(j:Int)<(m:Int):=om9;obtain⟨a,f,-⟩:=zaD w 53 #[.bool b1,.slice B1 m1 d1,.slice E1 u1 v1];obtain⟨r0,r1,r2⟩:=f.c3;have HG:=lh9 (gq0 (hq.below a) a);clear hq b l bz a f h hk hx k;go_enter func132,ntmps132;go_wp2;refine bodyPost_ret (v:=.agg #[.bool b1,.slice B1 m1 d1,.slice E1 u1 v1]) (by simp [results,results132,go_sem,r0,r1,r2]) rfl ?_;exact HG.out
 ·have e1:((i:Int)==(r:Int))=false:=by rw [beq_eq_false_iff_ne];omega
  rw [if_neg (λq=>h1 q.1)];clear h1;obtain⟨ad,B,d,rfl,-,hc,ae,b1,B1,m1,d1,E1,u1,v1,rfl,-,h0,h1,h2,hq⟩:=h.place (Below.refl _ w) hi hj;obtain⟨g0,g1⟩:=(zad b hk).c2;obtain⟨hc,h0,h1,h2⟩:=zae4 b hc h0 h1 h2;have i1:(0:Int)<=(i:Int):=om9;have i2:(i:Int)<(n:Int):=om9;have i3:(0:Int)<=(j:Int):=om9;have i4:(j:Int)<(m:Int):=om9;obtain⟨a,f,-⟩:=zaD w 53 #[.bool b1,.slice B1 m1 d1,.slice E1 u1 v1];obtain⟨r0,r1,r2⟩:=f.c3;have HG:=lh9 (gq0 (hq.below a) a);clear hq b l bz a f h hk hx k;go_enter func132,ntmps132;go_wp2;refine bodyPost_ret (v:=.agg #[.bool b1,.slice B1 m1 d1,.slice E1 u1 v1]) (by simp [results,results132,go_sem,r0,r1,r2]) rfl ?_;exact HG.out
theorem zmv:∀(args:Array Value) (w':World),Sem.run prog (callFunc 114 args) w'=.ok (.enter 114 args) w':=Go.Proofs.enters_of func114 kr9 rfl
theorem znW {g gv i j:Nat}{V:oA9}{cv:Nat}{xs:List Rat}(h:zaH w A n c m M)(hk:Blk w g 32 #[.slice A n c,.int .i64 (m:Int)])(k:Blk w gv 71 #[.slice V n cv])(hv:zaL w V n cv xs)(hi:i<n)(hj:j<m+1):
  Calls prog 114 #[.int .i64 (i:Int),.int .i64 (j:Int),.pointer (some ⟨g,0,none⟩),.pointer (some ⟨gv,0,none⟩)] w (zaP w (if j=m then xs.getD i 0 else atM M i j)):=by
 obtain⟨a,l,bz⟩:=zaD w 53 #[.bool false,.slice none 0 0,.slice none 0 0];by_cases h1:j=m
 ·have e1:((j:Int)==(m:Int))=true:=by rw [beq_iff_eq];omega
  rw [if_pos h1];obtain⟨g0,g1⟩:=(zad a hk).c2;have y0:=(zad a k).c1;clear h1;obtain⟨ae,b1,B1,m1,d1,E1,u1,v1,rfl,-,h0,h2,h3,hq⟩:=hv.get (Below.refl _ w) hi;have h0:=zae a h0;have h1:=zae a h2;have h2:=zae a h3;have i1:(0:Int)<=(i:Int):=om9;have i2:(i:Int)<(n:Int):=om9;clear k;obtain⟨b,f,-⟩:=zaD w 53 #[.bool b1,.slice B1 m1 d1,.slice E1 u1 v1];obtain⟨r0,r1,r2⟩:=f.c3;have HG:=lh9 (gq0 (hq.below b) b);clear hq a l bz b f h hk hv;go_enter func114,ntmps114;go_wp2;refine bodyPost_ret (v:=.agg #[.bool b1,.slice B1 m1 d1,.slice E1 u1 v1]) (by simp [results,results114,go_sem,r0,r1,r2]) rfl ?_;exact HG.out
 ·have e1:((j:Int)==(m:Int))=false:=by rw [beq_eq_false_iff_ne];omega
  rw [if_neg h1];have hj:j<m:=om9;clear h1 k;obtain⟨ad,B,d,rfl,-,hc,ae,b1,B1,m1,d1,E1,u1,v1,rfl,-,h0,h1,h2,hq⟩:=h.place (Below.refl _ w) hi hj;obtain⟨g0,g1⟩:=(zad a hk).c2;obtain⟨hc,h0,h1,h2⟩:=zae4 a hc h0 h1 h2;have i1:(0:Int)<=(i:Int):=om9;have i2:(i:Int)<(n:Int):=om9;have i3:(0:Int)<=(j:Int):=om9;have i4:(j:Int)<(m:Int):=om9;obtain⟨b,f,-⟩:=zaD w 53 #[.bool b1,.slice B1 m1 d1,.slice E1 u1 v1];obtain⟨r0,r1,r2⟩:=f.c3;have HG:=lh9 (gq0 (hq.below b) b);clear hq a l bz b f h hk hv;go_enter func114,ntmps114;go_wp2;refine bodyPost_ret (v:=.agg #[.bool b1,.slice B1 m1 d1,.slice E1 u1 v1]) (by simp [results,results114,go_sem,r0,r1,r2]) rfl ?_;exact HG.out
theorem zqm:∀(args:Array Value) (w':World),Sem.run prog (callFunc 134 args) w'=.ok (.enter 134 args) w':=Go.Proofs.enters_of func134 kr9 rfl
theorem cl_nocol {g gc i j s:Nat}(h:zaH w A n c m M)(hk:Blk w g 32 #[.slice A n c,.int .i64 (m:Int)])(l:Blk w gc 3 #[.int .i64 (s:Int)])(hi:i<n)(hj:j+1<m)(hm64:m<=64):
  Calls prog 134 #[.int .i64 (i:Int),.int .i64 (j:Int),.pointer (some ⟨gc,0,none⟩),.pointer (some ⟨g,0,none⟩)] w (zaP w (if j<s then atM M i j else atM M i (j+1))):=by
 obtain⟨a,k,bz⟩:=zaD w 53 #[.bool false,.slice none 0 0,.slice none 0 0];have y0:=(zad a l).c1;clear l;by_cases h1:j<s
 ·have e1:decide ((j:Int)<(s:Int))=true:=decide_eq_true om9;have e2:decide (j<s)=true:=decide_eq_true h1;rw [if_pos h1];have o:j<m:=om9;clear h1;obtain⟨ad,B,d,rfl,-,hc,ae,b1,B1,m1,d1,E1,u1,v1,rfl,-,h0,h1,h2,hq⟩:=h.place (Below.refl _ w) hi o;obtain⟨g0,g1⟩:=(zad a hk).c2;obtain⟨hc,h0,h1,h2⟩:=zae4 a hc h0 h1 h2;have i1:(0:Int)<=(i:Int):=om9;have i2:(i:Int)<(n:Int):=om9;have i3:(0:Int)<=(j:Int):=om9;have i4:(j:Int)<(m:Int):=om9;obtain⟨b,f,-⟩:=zaD w 53 #[.bool b1,.slice B1 m1 d1,.slice E1 u1 v1];obtain⟨r0,r1,r2⟩:=f.c3;have HG:=lh9 (gq0 (hq.below b) b);clear hq a k bz b f h hk;go_enter func134,ntmps134;go_wp2;refine bodyPost_ret (v:=.agg #[.bool b1,.slice B1 m1 d1,.slice E1 u1 v1]) (by simp [results,results134,go_sem,r0,r1,r2]) rfl ?_;exact HG.out
 ·have e1:decide ((j:Int)<(s:Int))=false:=decide_eq_false om9;have e2:decide (j<s)=false:=decide_eq_false h1;rw [if_neg h1];clear h1;obtain⟨ad,B,d,rfl,-,hc,ae,b1,B1,m1,d1,E1,u1,v1,rfl,-,h0,h1,h2,hq⟩:=h.place (Below.refl _ w) hi hj;obtain⟨g0,g1⟩:=(zad a hk).c2;obtain⟨hc,h0,h1,h2⟩:=zae4 a hc h0 h1 h2;have i1:(0:Int)<=(i:Int):=om9;have i2:(i:Int)<(n:Int):=om9;have i3:(0:Int)<=(j:Int):=om9;have i4:(j:Int)<(m:Int):=om9;have i5:(0:Int)<=(j:Int)+1:=om9;have i6:(j:Int)+1<(m:Int):=om9;obtain⟨b,f,-⟩:=zaD w 53 #[.bool b1,.slice B1 m1 d1,.slice E1 u1 v1];obtain⟨r0,r1,r2⟩:=f.c3;have HG:=lh9 (gq0 (hq.below b) b);clear hq a k bz b f h hk;go_enter func134,ntmps134;go_wp2;refine bodyPost_ret (v:=.agg #[.bool b1,.slice B1 m1 d1,.slice E1 u1 v1]) (by simp [results,results134,go_sem,r0,r1,r2]) rfl ?_;exact HG.out
theorem en_of2:∀(args:Array Value) (w':World),Sem.run prog (callFunc 127 args) w'=.ok (.enter 127 args) w':=Go.Proofs.enters_of func127 kr9 rfl
theorem cl_of {gs i j:Nat}{Q:oA9}{q:Nat}(h:zaJ (zaE zak) w Q n M)(hd:zbG M n m)(hk:Blk w gs 30 #[.slice Q n q])(hi:i<n)(hj:j<m):Calls prog 127 #[.int .i64 (i:Int),.int .i64 (j:Int),.pointer (some ⟨gs,0,none⟩)] w (zaP w (atM M i j)):=by
 obtain⟨a,f,bz⟩:=zaD w 53 #[.bool false,.slice none 0 0,.slice none 0 0];obtain⟨ad,B,d,rfl,-,hc,hv⟩:=h.get (zaq zas) (Below.refl _ w) hi (hd.row hi);obtain⟨ae,b1,B1,m1,d1,E1,u1,v1,rfl,-,h0,h1,h2,hq⟩:=zaL.get hv (Below.refl _ w) hj;obtain⟨hc,h0,h1,h2⟩:=zae4 a hc h0 h1 h2;have g0:=(zad a hk).c1;have i1:(0:Int)<=(i:Int):=om9;have i2:(i:Int)<(n:Int):=om9;have i3:(0:Int)<=(j:Int):=om9;have i4:(j:Int)<(m:Int):=om9;obtain⟨b,c,-⟩:=zaD w 53 #[.bool b1,.slice B1 m1 d1,.slice E1 u1 v1];obtain⟨r0,r1,r2⟩:=c.c3;have HG:=lh9 (gq0 (hq.below b) b);clear hq a f bz b c h hk hv hd;go_enter func127,ntmps127;go_wp2;refine bodyPost_ret (v:=.agg #[.bool b1,.slice B1 m1 d1,.slice E1 u1 v1]) (by simp [results,results127,go_sem,r0,r1,r2]) rfl ?_;exact HG.out
theorem en_of1:∀(args:Array Value) (w':World),Sem.run prog (callFunc 125 args) w'=.ok (.enter 125 args) w':=Go.Proofs.enters_of func125 kr9 rfl
theorem zqa {gc k:Nat}{V:oA9}{cv:Nat}{z:Int}(hk:Blk w gc 3 #[.int .i64 z]):Calls prog 125 #[.slice V k cv,.pointer (some ⟨gc,0,none⟩)] w (λe w'=>e=.returned (.bool (!decide ((k:Int)=z)))/\Below w.heap.size w w'):=by
 have g0:=hk.c1;obtain⟨b,hb⟩:∃b,(!decide ((k:Int)=z))=b:=⟨_,rfl⟩;have hb2:((k:Int) !=z)=b:=by rw [<-hb];by_cases q:(k:Int)=z<;>simp [q]
 rw [hb];clear hk hb;go_enter func125,ntmps125;go_wp2;go_ret;exact⟨rfl,Below.refl _ _⟩
theorem en_pick1:∀(args:Array Value) (w':World),Sem.run prog (callFunc 128 args) w'=.ok (.enter 128 args) w':=Go.Proofs.enters_of func128 kr9 rfl
theorem znV {g:Nat}{z:Int}(hk:Blk w g 32 #[.slice A n c,.int .i64 (m:Int)]):Calls prog 128 #[.int .i64 z,.pointer (some ⟨g,0,none⟩)] w (λe w'=>e=.returned (.bool (!inB z m))/\Below w.heap.size w w'):=by
 obtain⟨g0,g1⟩:=hk.c2;have H:=λW=>lh9 (zjd A n c m z W);clear hk;go_enter func128,ntmps128;go_wp2_with fail;refine(H _).out.mono ?_;rintro e w1 ⟨rfl,hb⟩;have HB:=lh9 hb;clear hb;go_wp2;go_ret;exact⟨rfl,HB.out⟩
theorem en_pick2:∀(args:Array Value) (w':World),Sem.run prog (callFunc 130 args) w'=.ok (.enter 130 args) w':=Go.Proofs.enters_of func130 kr9 rfl
theorem cl_pick {g gs i j k q qc:Nat}{ap:Addr}(h:zaH w A n c m M)(hk:Blk w g 32 #[.slice A n c,.int .i64 (m:Int)])(f:Blk w gs 28 #[.slice (some ap) q qc])(hz:w.cell? (ap.add j)=some (.int .i64 (k:Int)))(hi:i<n)(hj:j<q)(p:k<m):
  Calls prog 130 #[.int .i64 (i:Int),.int .i64 (j:Int),.pointer (some ⟨g,0,none⟩),.pointer (some ⟨gs,0,none⟩)] w (zaP w (atM M i k)):=by
 obtain⟨a,l,bz⟩:=zaD w 53 #[.bool false,.slice none 0 0,.slice none 0 0];obtain⟨ad,B,d,rfl,hl1,hc,ae,b1,B1,m1,d1,E1,u1,v1,rfl,hl2,h0,h1,h2,hq⟩:=h.place (Below.refl _ _) hi p;have hl3:=hk.lt;have hl4:=f.lt;have r:(ap.add j).block<w.heap.size:=World.block_lt_of_cell? w _ hz;obtain⟨g0,g1⟩:=(zad a hk).c2;have y0:=(zad a f).c1;have y1:=zae a hz;have z0:=zae a hc;have z1:=zae a h0;have z2:=zae a h1;have z3:=zae a h2;have o:=hq.below a;have i1:(0:Int)<=(i:Int):=om9;have i2:(i:Int)<(n:Int):=om9;have i3:(0:Int)<=(j:Int):=om9;have i4:(j:Int)<(q:Int):=om9;have i5:(0:Int)<=(k:Int):=om9;have i6:(k:Int)<(m:Int):=om9;have HQ:=lh9 o;have HB:=lh9 a;have HK:=lh9 l;clear h hk f hz hc h0 h1 h2 hq o a l bz;go_enter func130,ntmps130;go_wp2_with fail;generalize w.alloc (.cells #[.bool false,.slice none 0 0,.slice none 0 0] 53)=W1 at*;have b:=(Below.refl W1.heap.size W1).drew;refine rg (csc g0 (csc z0 (csc y0 (csc y1 (csc z1 (csc z2 (csc z3 csn))))))) (λhHeld=>?_);clear g0 g1 z0 y0 y1 z1 z2 z3;generalize W1.drew=D at*;refine tk 0 ?_;refine tk 1 ?_;refine tk 2 ?_;refine tk 3 ?_;refine tk 4 ?_;refine tk 5 ?_;refine tk 6 ?_;refine tk 7 ?_;refine tk 8 ?_;refine tk 9 ?_;refine tk 10 ?_;have kr:=zad b HK.out;obtain⟨s,x,t,y,u,z⟩:=st3 kr (.bool b1) (.slice B1 m1 d1);obtain⟨r0,r1,r2⟩:=(sn3 kr (.bool b1) (.slice B1 m1 d1) (.slice E1 u1 v1)).c3;have HG:=lh9 (gq3 (HQ.out.below b) kr (zac HB.out b) om9);refine rc 11 (λKK hK=>?_);go_simp;refine hK.out _ _ ?_ (λhHeld=>?_)
 ·refine Cs.far hHeld (off3 _ _ _ _ _) ?_;refine⟨?_,?_,?_,?_,?_,?_,?_,trivial⟩<;>(simp only [zan];simp only [zan] at r;omega)
 clear hK KK;refine rdn ?_;clear s x t y u z hHeld kr;go_wp2;refine bodyPost_ret (v:=.agg #[.bool b1,.slice B1 m1 d1,.slice E1 u1 v1]) (by simp [results,results130,go_sem,r0,r1,r2]) rfl ?_;exact HG.out
end
theorem zfD {r c:Int}{b:Bool}(h:zfg r c=b)(w:World):Calls prog 113 #[.int .i64 r,.int .i64 c] w (λe w'=>e=.returned (.bool b)/\w=w'):=h▸mat_may r c w
theorem zls (fn:Fn)(first a:Array Value)(w:World):(Instr.makeFunc fn first a).run prog w=.ok (.func fn first a) w:=rfl
theorem sz_one:SzQ 1 (1:Rat):=⟨de9,de9⟩
theorem one_sz (r c:Nat):SzQ 1 (if r=c then(1:Rat) else 0):=by split<;>first|exact sz_one|exact SzQ.zero
theorem mat_one {n:Nat}{w:World}(hT:zam w)(hn:n<=64):Calls prog 53 #[.int .i64 (n:Int)] w (zbM w n n (oneM n)):=by
 have H:=λW=>lh9 (zfD (zhf hn hn) W);obtain⟨a,d,bz⟩:=zaD w 32 #[.slice none 0 0,.int .i64 0];have HM:Hid (Calls _ _ _ _ (zbw _ n n (oneM n))):=zdG (K:=1) (λr c=>if r=c then 1 else 0) 119 #[] n n _ (hT.on a) ⟨en_one1,λr c _ _ w' hb=>cl_one ((hT.on a).on hb) r c⟩ (λr c _ _=>one_sz r c) hn hn;have HK:=lh9 d;have HB:=lh9 a;clear a d bz hT;go_enter func53,ntmps53;go_wp2_with fail;refine(H _).out.mono ?_;rintro e w1 ⟨rfl,rfl⟩;go_wp2_with fail;refine HM.out.mono ?_;rintro e w3 ⟨A3,c3,rfl,g,f,hb⟩;have b:=zad hb HK.out;obtain⟨sc0,sf0,sc1,sf1⟩:=st2 b (.slice A3 n c3);obtain⟨r0,r1⟩:=(sn2 b (.slice A3 n c3) (.int .i64 (n:Int))).c2;have HG:=lh9 (gmb2 g (λad e=>Nat.lt_of_lt_of_le HK.out.lt (f ad e)) b (zac HB.out hb) om9);clear hb b g f HK HB;go_wp2;refine bodyPost_ret (v:=.tuple #[.agg #[.slice A3 n c3,.int .i64 (n:Int)],.bool true]) (by simp [results,results53,go_sem,r0,r1]) rfl ?_;exact HG.out
section
variable {A:oA9}{n c m K:Nat}{MM:List (List Rat)}{w:World}
theorem mat_copy (hT:zam w)(h:zaH w A n c m MM)(z:zay K MM)(hK:K+2<=67108864:=by omega):Calls prog 20 #[.agg #[.slice A n c,.int .i64 (m:Int)]] w (zbw w n m MM):=by
 obtain⟨hn,hm⟩:=And.intro h.hn h.hm;have HR:=λW=>lh9 (zbW A n c (m:Int) W);obtain⟨i,g,j,bz⟩:=zbg w 32 32 #[.slice A n c,.int .i64 (m:Int)] #[.slice none 0 0,.int .i64 0];have HM:∀W,Below w.heap.size w W->Blk W w.heap.size 32 #[.slice A n c,.int .i64 (m:Int)]->Hid (Calls prog 71 #[.int .i64 (n:Int),.int .i64 (m:Int),.func (.func 73) #[] #[.pointer (some ⟨w.heap.size,0,none⟩)]] W (zbw W n m MM)):=λW hW hk=>by
  have hh:=h.keep hW;have q:=zdG (K:=K) (atM MM) 73 #[.pointer (some ⟨w.heap.size,0,none⟩)] n m W (hT.on hW) ⟨en_copy1,λr c hr hc w' hb=>cl_copy (hh.keep hb) (zad hb hk) hr hc⟩ (λr c hr hc=>z.at_ h.dims hr hc) hn hm hK;rw [h.dims.eq] at q;exact q
 have b:=lh9 g;have HK:=lh9 j;have HB:=lh9 i;obtain⟨p0,p1⟩:=g.c2;clear i g j bz hT h z;go_enter func20,ntmps20;go_wp2_with fail;generalize (w.alloc (.cells #[.slice A n c,.int .i64 (m:Int)] 32)).alloc (.cells #[.slice none 0 0,.int .i64 0] 32)=W1 at*;have d:=(Below.refl W1.heap.size W1).drew;refine rg (csc p0 (csc p1 csn)) (λhHeld=>?_);clear p0 p1;have HB:=lh9 (zac HB.out d);have HK:=lh9 (zad d HK.out);have b:=lh9 (zad d b.out);clear d;generalize W1.drew=D at*;refine tk 0 ?_;refine tk 2 ?_;refine tk 3 ?_;refine tk 4 ?_;refine rc 1 (λKK a=>?_);go_simp;refine(HR _).out.mono ?_;rintro e w2 ⟨rfl,hb⟩;refine a.out _ _ (Cs.below hHeld hb) (λhHeld=>?_);clear a KK;have HB:=lh9 (zac HB.out hb);have HK:=lh9 (zad hb HK.out);have b:=lh9 (zad hb b.out);clear hb;refine rc 5 (λKK a=>?_);go_simp;refine(HM _ HB.out b.out).out.mono ?_;rintro e w3 ⟨A3,c3,rfl,l,k,hb⟩;refine a.out _ _ (Cs.below hHeld hb) (λhHeld=>?_);clear a KK;have f:=zad hb HK.out;obtain⟨o,s,p,t⟩:=st2 f (.slice A3 n c3);obtain⟨r0,r1⟩:=(sn2 f (.slice A3 n c3) (.int .i64 (m:Int))).c2;have HG:=lh9 (gm2 l (λad e=>Nat.lt_of_lt_of_le HK.out.lt (k ad e)) f (zac HB.out hb) om9);clear hb f l k HK HB b HM;refine rc 6 (λKK a=>?_);go_simp;refine a.out _ _ ?_ (λhHeld=>?_)
 ·refine Cs.far hHeld (zcM _ _ _ _) ⟨?_,?_,trivial⟩<;>(show w.heap.size≠w.heap.size+1;omega)
 clear a KK;refine rdn ?_;clear hHeld o s p t;go_wp2;refine bodyPost_ret (v:=.agg #[.slice A3 n c3,.int .i64 (m:Int)]) (by simp [results,results20,go_sem,r0,r1]) rfl ?_;exact HG.out
theorem zje (hT:zam w)(h:zaH w A n c m MM)(z:zay K MM)(hK:K+2<=67108864:=by omega):Calls prog 18 #[.agg #[.slice A n c,.int .i64 (m:Int)]] w (zbw w m n (zba n m MM)):=by
 obtain⟨hn,hm⟩:=And.intro h.hn h.hm;have HR:=λW=>lh9 (zbW A n c (m:Int) W);obtain⟨i,g,j,bz⟩:=zbg w 32 32 #[.slice A n c,.int .i64 (m:Int)] #[.slice none 0 0,.int .i64 0];have HM:∀W,Below w.heap.size w W->Blk W w.heap.size 32 #[.slice A n c,.int .i64 (m:Int)]->Hid (Calls prog 71 #[.int .i64 (m:Int),.int .i64 (n:Int),.func (.func 72) #[] #[.pointer (some ⟨w.heap.size,0,none⟩)]] W (zbw W m n (zba n m MM))):=λW hW hk=>by
  have hh:=h.keep hW;exact zdG (K:=K) (λr c=>atM MM c r) 72 #[.pointer (some ⟨w.heap.size,0,none⟩)] m n W (hT.on hW) ⟨zof,λr c hr hc w' hb=>zqb (hh.keep hb) (zad hb hk) hc hr⟩ (λr c hr hc=>z.at_ h.dims hc hr) hm hn hK
 have b:=lh9 g;have HK:=lh9 j;have HB:=lh9 i;obtain⟨p0,p1⟩:=g.c2;clear i g j bz hT h z;go_enter func18,ntmps18;go_wp2_with fail;generalize (w.alloc (.cells #[.slice A n c,.int .i64 (m:Int)] 32)).alloc (.cells #[.slice none 0 0,.int .i64 0] 32)=W1 at*;have d:=(Below.refl W1.heap.size W1).drew;refine rg (csc p0 (csc p1 csn)) (λhHeld=>?_);clear p0 p1;have HB:=lh9 (zac HB.out d);have HK:=lh9 (zad d HK.out);have b:=lh9 (zad d b.out);clear d;generalize W1.drew=D at*;refine tk 0 ?_;refine tk 1 ?_;refine tk 2 ?_;refine tk 4 ?_;refine rc 3 (λKK a=>?_);go_simp;refine(HR _).out.mono ?_;rintro e w2 ⟨rfl,hb⟩;refine a.out _ _ (Cs.below hHeld hb) (λhHeld=>?_);clear a KK;have HB:=lh9 (zac HB.out hb);have HK:=lh9 (zad hb HK.out);have b:=lh9 (zad hb b.out);clear hb;refine rc 5 (λKK a=>?_);go_simp;refine(HM _ HB.out b.out).out.mono ?_;rintro e w3 ⟨A3,c3,rfl,l,k,hb⟩;refine a.out _ _ (Cs.below hHeld hb) (λhHeld=>?_);clear a KK;have f:=zad hb HK.out;obtain⟨o,s,p,t⟩:=st2 f (.slice A3 m c3);obtain⟨r0,r1⟩:=(sn2 f (.slice A3 m c3) (.int .i64 (n:Int))).c2;have HG:=lh9 (gm2 l (λad e=>Nat.lt_of_lt_of_le HK.out.lt (k ad e)) f (zac HB.out hb) om9);clear hb f l k HK HB b HM;refine rc 6 (λKK a=>?_);go_simp;refine a.out _ _ ?_ (λhHeld=>?_)
 ·refine Cs.far hHeld (zcM _ _ _ _) ⟨?_,?_,trivial⟩<;>(show w.heap.size≠w.heap.size+1;omega)
 clear a KK;refine rdn ?_;clear hHeld o s p t;go_wp2;refine bodyPost_ret (v:=.agg #[.slice A3 m c3,.int .i64 (n:Int)]) (by simp [results,results18,go_sem,r0,r1]) rfl ?_;exact HG.out
end
theorem zoS {w:World}{A:oA9}{n:Nat}{k:IntKind}{l:List Nat}{p:Addr}{B:oA9}{m d:Nat}(h:zav w w.heap.size 1 A n (zaw k l))(hp:w.cell? p=some (.slice B m d))(u:Value):zav (w.setCell p u) (w.setCell p u).heap.size 1 A n (zaw k l):=by
 refine⟨h.1,λhn=>?_⟩;obtain⟨ad,e,hb,hc⟩:=h.2 hn;refine⟨ad,e,by simpa using hb,λj v hv=>?_⟩;have h0:=hc j v hv;rw [World.cell?_setCell_other w p (ad.add j) u (λe2=>?_)]
 ·exact h0
 ·have hm:=List.mem_of_getElem? hv;unfold zaw at hm;obtain⟨z,_,rfl⟩:=List.mem_map.1 hm
  first
   |rw [e2,hp] at h0;cases h0
   |rw [<-e2,hp] at h0;cases h0
theorem ziY {w:World}{x:Nat}{A:oA9}{n c:Nat}{p:Addr}{B:oA9}{m d:Nat}(h:zal w x A n c)(hp:w.cell? p=some (.slice B m d))(u:Value):zal (w.setCell p u) x A n c:=⟨zoS h.1 hp u,h.2⟩
theorem zkI {w:World}{p:Addr}{B:oA9}{m d:Nat}{r:Rat}{b:Bool}{A:oA9}{n c:Nat}{E:oA9}{k f:Nat}(h:zbZ w r b A n c E k f)(hp:w.cell? p=some (.slice B m d))(u:Value):zbZ (w.setCell p u) r b A n c E k f:=⟨⟨h.1.1,ziY h.1.2 hp u⟩,ziY h.2 hp u⟩
theorem zcV {w:World}{A:oA9}{n c:Nat}{xs:List Rat}{g i:Nat}{t:TypeId}{cs:Array Value}{B:oA9}{m d:Nat}(h:zdk w A n c xs)(hk:Blk w g t cs)(hs:∀u ∈ cs.toList,∀b,u≠.bool b)(hp:w.cell? ⟨g,i,none⟩=some (.slice B m d))(u:Value):zdk (w.setCell ⟨g,i,none⟩ u) A n c xs:=
 zhr h hk hs (zbn.of_far ((zbS.refl g w).set_ i u)) (λh5=>zkI h5 hp u)
theorem zqr {w:World}{x:Nat}{A:oA9}{n c f:Nat}{t:TypeId}(h:zal w x A n c)(k:Blk w f t #[.slice none 0 0,.int .i64 0])(hn:0<n):∀ad,A=some ad->ad.block≠f:=by
 intro ad e hf;obtain⟨ad',e',_,hc⟩:=zbF h.1 (k:=n - 1) om9;rw [e] at e';injection e' with e';subst e';have hm:Value.int .i64 (((dg 65536 x).getD (n - 1) 0:Nat):Int)∈(#[.slice none 0 0,.int .i64 0]:Array Value).toList:=by
  have hb:(ad.add (n - 1)).block=f:=by rw [zan];exact hf
  generalize ad.add (n - 1)=q at hb hc;obtain⟨bk,off,pr⟩:=q;simp only at hb;subst hb;unfold Blk at k;cases pr with
  |none=>
    rw [show w.cell? ⟨bk,off,none⟩=_ from cell_of_row w bk off _ t (0,0) k,<-Array.getElem?_toList] at hc;exact List.mem_of_getElem? hc
  |some q=>simp [World.cell?,k] at hc
 have hx:x≠0:=λhx=>by have:=ziS h hx;omega
 have hl:=h.len;have hv:=zde (b:=65536) de9 x;have hg:=(zhT (b:=65536) de9 x hx).2;have ht:=zaO 65536 (dg 65536 x) (n - 1);have hd:=zcP (b:=65536) (l:=(dg 65536 x).take (n - 1)) (λd hd=>zcx de9 x d (List.mem_of_mem_take hd));rw [List.length_take,<-hl,Nat.min_eq_left om9] at hd;rw [show n - 1+1=n by omega,List.take_of_length_le om9,hv] at ht;rw [<-hl] at hg;have hz:(dg 65536 x).getD (n - 1) 0=0:=by
  simp only [List.mem_cons,List.not_mem_nil,or_false] at hm;rcases hm with hm|hm
  ·cases hm
  ·injection hm with _ hm;omega
 rw [hz,Nat.mul_zero] at ht;omega
theorem ziU {w w':World}{x:Nat}{A:oA9}{n c f:Nat}{t:TypeId}(h:zal w x A n c)(k:Blk w f t #[.slice none 0 0,.int .i64 0])(ho:zbS f w w'):zal w' x A n c:=by
 have a:=zqr h k;refine⟨⟨h.1.1,λhn=>?_⟩,h.2⟩;obtain⟨ad,e,hb,hc⟩:=h.1.2 hn;refine⟨ad,e,by rw [ho.1];exact hb,λj v hv=>?_⟩;rw [ho.2 (ad.add j) (by rw [zan];exact a hn ad e)];exact hc j v hv
theorem zkH {w w':World}{r:Rat}{b:Bool}{A:oA9}{n c:Nat}{E:oA9}{u v f:Nat}{t:TypeId}(h:zbZ w r b A n c E u v)(k:Blk w f t #[.slice none 0 0,.int .i64 0])(ho:zbS f w w'):zbZ w' r b A n c E u v:=⟨⟨h.1.1,ziU h.1.2 k ho⟩,ziU h.2 k ho⟩
theorem ref_offz {w:World}{A:oA9}{n c g:Nat}{xs:List Rat}{t:TypeId}(h:zdk w A n c xs)(hk:Blk w g t #[.slice none 0 0,.int .i64 0])(x y:Value):zdk ((w.setCell ⟨g,0,none⟩ x).setCell ⟨g,1,none⟩ y) A n c xs:=
 zhr h hk (zbb _ _ _ _) (zbn.of_far (zcM _ _ _ _)) (λh5=>zkH h5 hk (zcM _ _ _ _))
theorem zaN.slot {α:Type}{R:RP α}{w:World}{base:Nat}{t:TypeId}{v:Value}{Ls:List (List α)}{vs:List Value}{g i:Nat}{u:Value}(h:zaN R w base t v Ls vs)(hg:g<base)(a:∀{B:oA9} {m d:Nat} {L:List α},R w B m d L->R (w.setCell ⟨g,i,none⟩ u) B m d L):zaN R (w.setCell ⟨g,i,none⟩ u) base t v Ls vs:=by
 refine⟨⟨h.own.1,?_⟩,h.sl.block (λg' e=>Below.heap_setCell _ _ _ _ ?_),λj L hj=>?_⟩
 ·rcases h.own.2 with h1|⟨g',cap,cur,e1,e2,e3,e4⟩
  ·exact .inl h1
  ·exact .inr ⟨g',cap,cur,e1,e2,(Below.heap_setCell w ⟨g,i,none⟩ u g' (by show g'≠g;omega)).trans e3,e4⟩
 ·have:=(h.own.lt g' e).1;show g'≠g;omega
 ·obtain⟨B,d,hv,hw⟩:=h.num j L hj;exact⟨B,d,hv,a hw⟩
structure zbP (w:World)(A:oA9)(n c m:Nat)(M:List (List Rat)):Prop where
 dims:zbG M n m
 fits:n<=c
 most:c<=9223372036854775807
 hn:n<=64
 hm:m<=64
 rows:zaJ (zaE zbZ) w A n M
 ty:∀ad,A=some ad->zgu w ad.block 80
theorem zbP.keep {w w':World}{A:oA9}{n c m:Nat}{M:List (List Rat)}(h:zbP w A n c m M)(hb:Below w.heap.size w w'):zbP w' A n c m M:={h with rows:=h.rows.below (zaq zao) hb,ty:=λad e=>(h.ty ad e).below hb}
theorem zbP.nil (w:World)(m:Nat)(h:m<=64):zbP w none 0 0 m []:=⟨zmr m,Nat.le_refl _,de9,de9,h,zaJ.nil w none,λad e=>by cases e⟩
theorem zbP.offz {w:World}{A:oA9}{n c m g:Nat}{M:List (List Rat)}{t:TypeId}(h:zbP w A n c m M)(hk:Blk w g t #[.slice none 0 0,.int .i64 0])(x y:Value)(ht:80≠t:=by decide):zbP ((w.setCell ⟨g,0,none⟩ x).setCell ⟨g,1,none⟩ y) A n c m M:=
 { h with
  rows:=h.rows.off (λad e=>(h.ty ad e).ne hk ht) (zbn.of_far (zcM _ _ _ _)) (λh3=>ref_offz h3 hk x y)
  ty:=λad e=>((h.ty ad e).set_ _ _ _).set_ _ _ _}
theorem zbP.slot {w:World}{A:oA9}{n c m g:Nat}{M:List (List Rat)}{t:TypeId}{B:oA9}{p q:Nat}{z:Int}(h:zbP w A n c m M)(hk:Blk w g t #[.slice B p q,.int .i64 z])(u:Value)(ht:80≠t:=by decide):zbP (w.setCell ⟨g,0,none⟩ u) A n c m M:=
 { h with
  rows:=h.rows.off (λad e=>(h.ty ad e).ne hk ht) (zbn.of_far (zci _ _ _)) (λh3=>zcV h3 hk (zbb _ _ _ _) (hk.cell 0) u)
  ty:=λad e=>(h.ty ad e).set_ _ _ _}
theorem zbP.row {w wr:World}{A:oA9}{n c m:Nat}{M:List (List Rat)}(h:zbP w A n c m M)(hb:Below w.heap.size w wr){i:Nat}(hi:i<n):∃(ad:Addr) (B:oA9) (d:Nat),A=some ad/\ad.block<w.heap.size/\wr.cell? (ad.add i)=some (.slice B m d)/\zdk wr B m d (M.getD i []):=
 h.rows.get (zaq zao) hb hi (h.dims.row hi)
theorem zbP.place {w wr:World}{A:oA9}{n c m:Nat}{M:List (List Rat)}(h:zbP w A n c m M)(hb:Below w.heap.size w wr){i j:Nat}(hi:i<n)(hj:j<m):∃(ad:Addr) (B:oA9) (d:Nat),A=some ad/\ad.block<w.heap.size/\wr.cell? (ad.add i)=some (.slice B m d)/\
  ∃(ae:Addr) (b1:Bool) (B1:oA9) (m1 d1:Nat) (E1:oA9) (u1 v1:Nat),B=some ae/\ae.block<wr.heap.size/\wr.cell? (ae.add (j*3))=some (.bool b1)/\wr.cell? ⟨(ae.add (j*3)).block,(ae.add (j*3)).off+1,none⟩=some (.slice B1 m1 d1)/\wr.cell? ⟨(ae.add (j*3)).block,(ae.add (j*3)).off+2,none⟩=some (.slice E1 u1 v1)/\zbZ wr (atM M i j) b1 B1 m1 d1 E1 u1 v1:=by
 obtain⟨ad,B,d,e,h1,h2,h3⟩:=h.row hb hi;obtain⟨ae,b1,B1,m1,d1,E1,u1,v1,e4,h4,h5,h6,h7,h8⟩:=h3.get (Below.refl _ _) hj;exact⟨ad,B,d,e,h1,h2,ae,b1,B1,m1,d1,E1,u1,v1,e4,h4,h5,h6,h7,h8⟩
theorem zaN.refm {w:World}{base n m:Nat}{v:Value}{M:List (List Rat)}{vs:List Value}(h:zaN (zaE zbZ) w base 80 v M vs)(hd:zbG M n m)(hn:n<=64)(hm:m<=64):∃A c,v=.slice A n c/\zbP w A n c m M:=by
 obtain⟨A,c,rfl,h1,h2,h3,h4⟩:=h.shape hd.rows;refine⟨A,c,rfl,hd,h1,h2,hn,hm,h3,λad e=>?_⟩;subst e;rcases h.own.2 with⟨e1,h0⟩|⟨g,cap,cur,e1,e2,e3,e4⟩
 ·cases e1
 ·injection e1 with e1 _ _;injection e1 with e1;subst e1;exact⟨cur,e3⟩
def zeW (w:World)(n m:Nat)(M:List (List Rat))(e:Ending)(w':World):Prop:=∃(A:oA9) (c:Nat),e=.returned (.agg #[.slice A n c,.int .i64 (m:Int)])/\zbP w' A n c m M/\Below w.heap.size w w'
theorem grm2 {w W:World}{A:oA9}{n c m g:Nat}{M:List (List Rat)}(h:zbP W A n c m M)(k:Blk W g 36 #[.slice none 0 0,.int .i64 0])(hB:Below w.heap.size w W)(hg:w.heap.size<=g):
  zeW w n m M (.returned (.agg #[.slice A n c,.int .i64 (m:Int)])) ((W.setCell ⟨g,0,none⟩ (.slice A n c)).setCell ⟨g,1,none⟩ (.int .i64 (m:Int))):=
 ⟨A,c,rfl,h.offz k _ _,bl2 _ _ hg hB⟩
theorem zeK:(prog.info? 80).map (λi=>(i.zero,i.size,i.bytes))=some (some (.slice none 0 0),1,24):=kr9
