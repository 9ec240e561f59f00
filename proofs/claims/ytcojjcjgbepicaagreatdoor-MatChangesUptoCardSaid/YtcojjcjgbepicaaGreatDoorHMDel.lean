/- What this claim leans on. -/
import Derived.Test.YtcojjcjgbepicaaGreatDoorHRCol
import Derived.ArgAppend
namespace Go.Proofs.YtcojjcjgbepicaaGreatDoor
open Go Go.RowKit Go.Proofs.Tryz
set_option maxHeartbeats 16000000
set_option maxRecDepth 100000
set_option linter.unusedVariables false
set_option linter.unusedSimpArgs false
theorem zhB (g:Nat):∀(a:List Value) (k:Nat) (w:World),zbS g w (w.setCells g k a)
 |[],k,w=>zbS.refl g w
 |v::t,k,w=>by
   have h1:=zhB g t (k+1) (w.setCell ⟨g,k,none⟩ v);have h2:=(zbS.refl g w).set_ k v;exact⟨h1.1.trans h2.1,λp hp=>(h1.2 p hp).trans (h2.2 p hp)⟩
theorem zhx {g:Nat}{t:TypeId}:∀(a:List Value) (k:Nat) (w:World) (cs:Array Value),Blk w g t cs->k+a.length<=cs.size->(∀u ∈ cs.toList,zbf u)->(∀u ∈ a,zbf u)->
  ∃b,Blk (w.setCells g k a) g t b/\b.size=cs.size/\(∀u ∈ b.toList,zbf u)/\(∀j,j<k->b[j]?=cs[j]?)/\(∀j,j<a.length->b[k+j]?=a[j]?)/\(∀j,k+a.length<=j->b[j]?=cs[j]?)
 |[],k,w,cs,hk,hl,hs,hn=>⟨cs,hk,rfl,hs,λ_ _=>rfl,λj hj=>by simp at hj,λ_ _=>rfl⟩
 |v::t9,k,w,cs,hk,hl,hs,hn=>by
   simp only [List.length_cons] at hl;obtain⟨b,h1,h2,h3,h4,h5,h6⟩:=zhx t9 (k+1) (w.setCell ⟨g,k,none⟩ v) (cs.setIfInBounds k v) (hk.set_ k v) (by simp;omega) (λu hu=>by
    rw [Array.toList_setIfInBounds] at hu;rcases List.mem_or_eq_of_mem_set hu with hu|rfl
    ·exact hs u hu
    ·exact hn _ (List.mem_cons_self ..)) (λu hu=>hn u (List.mem_cons_of_mem _ hu))
   refine⟨b,h1,by rw [h2];simp,h3,λj hj=>?_,λj hj=>?_,λj hj=>?_⟩
   ·rw [h4 j om9,Array.getElem?_setIfInBounds_ne om9]
   ·cases j with
    |zero=>rw [Nat.add_zero,h4 k om9,Array.getElem?_setIfInBounds_self_of_lt om9];rfl
    |succ j=>
      simp only [List.length_cons] at hj;have:=h5 j om9;rw [show k+1+j=k+(j+1) by omega] at this;rw [this];rfl
   ·simp only [List.length_cons] at hj;rw [h6 j om9,Array.getElem?_setIfInBounds_ne om9]
theorem zfw {w0:World}{g:Nat}(hg:w0.heap.size<=g):∀(a:List Value) (k:Nat) (w:World),Below w0.heap.size w0 w->Below w0.heap.size w0 (w.setCells g k a)
 |[],k,w,h=>h
 |v::t,k,w,h=>zfw hg t (k+1) (w.setCell ⟨g,k,none⟩ v) (zag v hg h)
theorem zmd {P:Program}{w w':World}{o:Oper}{a:Act}{K:Act->World->Prop}{Q:Exit->Act->World->Prop}(s x:Operand)(t:TypeId){v u v':Value}
  (ho:o.op=.call {callee:=.builtin .append,args:=#[s,x],argTypes:=#[t,t]}) (hs:a.eval s=v) (hx:a.eval x=u) (hr:(Builtin.append_ #[t,t] o.type #[v,u]).run P w=.ok v' w') (h:K (a.put o.dst v') w'):Oper.wp P o a w K Q:=by
 unfold Oper.wp execOp;simp only [ho,resolve,invoke,builtin,Sem.run_bind,Sem.run_pure,Result.andThen_ok,List.map_toArray,List.map_cons,List.map_nil,hs,hx,hr];exact h
theorem zaJ.vals {R:RP Rat}{w:World}{ad:Addr}{n:Nat}{Ls:List (List Rat)}(h:zaJ R w (some ad) n Ls):∃vs:List Value,vs.length=n/\(∀u ∈ vs,zbf u)/\(∀j u,vs[j]?=some u->w.cell? (ad.add j)=some u)/\∀(i:Nat) (L:List Rat),Ls[i]?=some L->∃(B:oA9) (d:Nat),vs[i]?=some (Value.slice B L.length d)/\R w B L.length d L:=by
 have hl:=h.len;have a:∀i,i<n->∃u,w.cell? (ad.add i)=some u/\zbf u:=λi hi=>by
  obtain⟨b,B,d,e,_,h2,_⟩:=h.num i _ (zcd (d:=[]) om9);injection e with e;subst e;exact⟨_,h2,_,_,_,rfl⟩
 refine⟨(List.range n).map λi=>(w.cell? (ad.add i)).getD undef,si9,λu hu=>?_,λj u hu=>?_,λi L hi=>?_⟩
 ·obtain⟨i,hi,rfl⟩:=List.mem_map.1 hu;obtain⟨u,h1,h2⟩:=a i (List.mem_range.1 hi);rw [h1];exact h2
 ·have hj:j<n:=by
   have:=(List.getElem?_eq_some_iff.1 hu).1;simpa using this
  obtain⟨u',h1,h2⟩:=a j hj;rw [List.getElem?_map,List.getElem?_range hj] at hu;injection hu with hu;dsimp only at hu;rw [h1] at hu⊢;rw [<-hu];rfl
 ·have hlt:=(List.getElem?_eq_some_iff.1 hi).1;obtain⟨b,B,d,e,_,h2,h3⟩:=h.num i L hi;injection e with e;subst e;refine⟨B,d,?_,h3⟩;rw [List.getElem?_map,List.getElem?_range om9];show some ((w.cell? (ad.add i)).getD undef)=_;rw [h2];rfl
structure zcg (w:World)(base g n cap:Nat)(Ls:List (List Rat)):Prop where
 ge:base<=g
 len:Ls.length=n
 fits:n<=cap
 most:cap<=9223372036854775807
 blk:∃cs:Array Value,Blk w g 71 cs/\(∀u ∈ cs.toList,zbf u)/\cs.size=cap
 num:∀i L,Ls[i]?=some L->∃(B:oA9) (d:Nat),w.cell? ⟨g,i,none⟩=some (.slice B L.length d)/\zaL w B L.length d L
theorem zcg.below {w w':World}{base g n a:Nat}{Ls:List (List Rat)}(h:zcg w base g n a Ls)(hb:Below w.heap.size w w'):zcg w' base g n a Ls:=by
 refine⟨h.ge,h.len,h.fits,h.most,?_,λi L hi=>?_⟩
 ·obtain⟨cs,hk,h1,h2⟩:=h.blk;exact⟨cs,zad hb hk,h1,h2⟩
 ·obtain⟨B,d,h1,h2⟩:=h.num i L hi;exact⟨B,d,zae hb h1,zaL.keep h2 hb⟩
theorem zcg.rows {w:World}{base g n a:Nat}{Ls:List (List Rat)}(h:zcg w base g n a Ls):zaJ (zaE zak) w (some ⟨g,0,none⟩) n Ls:=
 ⟨h.len,λi L hi=>by
  obtain⟨cs,hk,_⟩:=h.blk;obtain⟨B,d,h1,h2⟩:=h.num i L hi;exact⟨_,B,d,rfl,hk.lt,by rw [zaF];exact h1,h2⟩⟩
theorem zaN.room {w:World}{base:Nat}{v:Value}{Ls:List (List Rat)}{vs:List Value}{g n c:Nat}(h:zaN (zaE zak) w base 71 v Ls vs)(hv:v=.slice (some ⟨g,0,none⟩) n c):zcg w base g n c Ls:=by
 subst hv;obtain⟨cur,e,h1,h2⟩:=h.sl g rfl;rcases h.own.2 with⟨e2,_⟩|⟨g2,cap,cur2,e2,hbg,hg,hnc,hcm,hcs,htake⟩
 ·cases e2
 ·injection e2 with e2 e3 e4;injection e2 with e2;injection e2 with e2;subst e2;subst e4;rw [hg] at h1;injection h1 with h1;injection h1 with h1 h1';subst h1;have a:=h.own.cells (g:=g) rfl;refine⟨hbg,e3.symm,om9,by unfold maxLen at hcm;omega,⟨cur2,hg,h2,om9⟩,λi L hi=>?_⟩;obtain⟨B,d,hv,hw⟩:=h.num i L hi;have:=a _ _ hv;rw [zaF] at this;exact⟨B,d,this,hw⟩
def ziv (w:World)(Ls:List (List Rat))(e:Ending)(w':World):Prop:=∃(v:Value) (vs:List Value),e=.returned v/\zaN (zaE zak) w' w.heap.size 71 v Ls vs/\Below w.heap.size w w'
theorem zgH {A:oA9}{n c:Nat}{Ls:List (List Rat)}{w:World}(h:zaJ (zaE zak) w A n Ls)(hn:n<=1048576):
  Calls prog 131 #[.slice A n c] w (ziv w Ls):=by
 obtain⟨i0,s,v,x,y⟩:=info_parts zeq;have q:∀(w:World) (a:oA9) (n c n' c':Nat),(binOp .eql 30 (.slice a n c) (.slice none n' c')).run prog w=.ok (.bool a.isNone) w:=λw a n c n' c'=>Lib.run_eql_slice_nil w _ _ a n c n' c' underlying30;rcases A with _|ad
 ·have hl:=h.len;have t:Ls=[]:=by
   rcases Nat.eq_zero_or_pos n with h0|h0
   ·exact List.eq_nil_of_length_eq_zero om9
   ·obtain⟨ad,B,d,e,_⟩:=h.num 0 _ (zcd (d:=[]) om9);cases e
  subst t;clear h hl;go_enter func131,ntmps131;go_wp2;go_ret;exact⟨_,[],rfl,zaN.nil _ _ _,Below.refl _ _⟩
 ·obtain⟨vs,h1,h2,h3,h4⟩:=h.vals;have hl:=h.len;obtain⟨t1,t2,-⟩:=zaD w 71 #[];have H3:Hid (∀j u,vs[j]?=some u->(w.alloc (.cells #[] 71)).cell? (ad.add j)=some u):=λj u hu=>zae t1 (h3 j u hu);have H4:Hid (∀(i:Nat) (L:List Rat),Ls[i]?=some L->∃(B:oA9) (d:Nat),vs[i]?=some (Value.slice B L.length d)/\zaL (w.alloc (.cells #[] 71)) B L.length d L):=λi L hi=>by
   obtain⟨B,d,h5,h6⟩:=h4 i L hi;exact⟨B,d,h5,zaL.keep h6 t1⟩
  have HL:=lh9 hl;have HV:=lh9 h1;have o:=lh9 h2;have l:Hid (∀u ∈ vs,u.oneCell'=true):=λu hu=>by obtain⟨A,n,c,e⟩:=h2 u hu;rw [e];rfl
  have p:Hid (∀u ∈(Value.slice none 0 0).cells.toList,zbf u):=by intro u hu;simp [Value.cells] at hu;exact⟨_,_,_,hu⟩
  have m:Hid (zbL (w.alloc (.cells #[] 71)) (.slice (some ⟨w.heap.size,0,none⟩) 0 0)):=λg hg=>by
   simp [Value.ownBlock] at hg;subst hg;exact⟨#[],_,t2,λu hu=>by simp at hu⟩
  have HB:=lh9 t1;clear h h1 h2 h3 h4 hl t1 t2;go_enter func131,ntmps131;go_wp2_with (at_builtin;go_loud (refine zbv _ rfl (.tmp 5) (.tmp 6) 30 rfl w.heap.size 71 i0 (.slice none 0 0) 1 24 underlying30 s v x y rfl de9 (.slice (some ⟨w.heap.size,0,none⟩) 0 0) 0 [] rfl (World.ownsRow_made w #[] 0 (Nat.le_refl _) (Nat.zero_le _) rfl) ad n c vs rfl (by have:=HV.out;omega) H3.out l.out (by unfold maxLen;omega) om9 HB.out.size m.out p.out o.out ?_;intro v' w1 f b r k));have G:Hid (ziv w Ls (.returned v') w1):=by
   refine⟨v',vs,rfl,⟨by rw [HL.out];simpa using f,k,λi L hi=>?_⟩,HB.out.grown b HB.out.size (λg hg=>by simp [Value.ownBlock] at hg;omega)⟩;obtain⟨B,d,h5,h6⟩:=H4.out i L hi;exact⟨B,d,h5,(zaq zas).grown h6 b m.out⟩
  clear f b r k;go_wp2;go_ret;exact G.out
theorem zqc {g k c:Nat}{cs:Array Value}{W:World}(h:Blk W g 71 cs)(hk:k<cs.size):∀t:TypeId,(Builtin.clear_ #[30] t #[.slice (some ⟨g,k,none⟩) 1 c]).run prog W=.ok (.tuple #[]) (W.setCells g k [.slice none 0 0]):=λt=>by
 obtain⟨i0,b,f,hz1,hz2⟩:=info_parts zeq;have a:=run_storeCells_cells (P:=prog) g k [.slice none 0 0] 0 W
  (λj hj=>by
    have d:j=0:=by simpa using hj
    subst d;rw [Nat.add_zero,h.cell k,Array.getElem?_eq_getElem hk];rfl) (λj _=>h.frozen _) (λv hv=>by rw [List.mem_singleton.1 hv];rfl)
 have hz:(Builtin.zeroCells #[Value.slice none 0 0] 1).toList=[Value.slice none 0 0]:=List.ext_getElem (by simp [Builtin.zeroCells]) (λi h1 h2=>by simp [Builtin.zeroCells,Nat.mod_one]);rw [Nat.add_zero] at a;simp [Builtin.clear_,run_underlying underlying30,zeroValue,typeInfo,b,f,hz,a,Value.cells]
theorem zoY {w w':World}{base g n k b i:Nat}{Ls:List (List Rat)}{vs:List Value}{a:Array Value}(h:zcg w base g n b Ls)(hk1:k+1=n)(hi:i<n)
  (hv:vs.length=n) (h4:∀(i:Nat) (L:List Rat),Ls[i]?=some L->∃(B:oA9) (d:Nat),vs[i]?=some (Value.slice B L.length d)/\zaL w B L.length d L)
  (hk:Blk w' g 71 a) (hs:∀u ∈ a.toList,zbf u) (hz:a.size=b) (f:∀j,j<i->a[j]?=vs[j]?) (o:∀j,i<=j->j<k->a[j]?=vs[j+1]?) (hf:zbn g w w'):zcg w' base g k b (Ls.eraseIdx i):=by
 have hl:=h.len;have hft:=h.fits;obtain⟨cs,c,l,_⟩:=h.blk;refine⟨h.ge,by rw [List.length_eraseIdx,if_pos om9];omega,om9,h.most,⟨a,hk,hs,hz⟩,λj L hj=>?_⟩;have m:=(List.getElem?_eq_some_iff.1 hj).1;rw [List.length_eraseIdx,if_pos om9] at m;rw [List.getElem?_eraseIdx] at hj
 split at hj
 ·rename_i h1
  obtain⟨B,d,h5,h6⟩:=h4 j L hj;exact⟨B,d,by rw [hk.cell,f j h1];exact h5,zfN zas h6 c l hf⟩
 ·rename_i h1
  obtain⟨B,d,h5,h6⟩:=h4 (j+1) L hj;exact⟨B,d,by rw [hk.cell,o j om9 om9];exact h5,zfN zas h6 c l hf⟩
theorem znv {base g n k a i j9:Nat}{Ls:List (List Rat)}{w:World}(h:zcg w base g n a Ls)(x:i+1=j9)(y:k+1=n)(hi:i<n)(hn:n<=1048576):
  Calls prog 133 #[.slice (some ⟨g,0,none⟩) n a,.int .i64 (i:Int),.int .i64 (j9:Int)] w (λe w'=>e=.returned (.slice (some ⟨g,0,none⟩) k a)/\zcg w' base g k a (Ls.eraseIdx i)/\∀w0:World,w0.heap.size<=g->Below w0.heap.size w0 w->Below w0.heap.size w0 w'):=by
 obtain⟨vs,h1,h2,h3,h4⟩:=h.rows.vals;obtain⟨cs,l,z,hz0⟩:=h.blk;have hft:=h.fits;have hmo:=h.most;obtain⟨i9,t,_,d,_⟩:=info_parts zeq;have F:∀(s:List Value) j,(s.drop j).length=s.length - j:=λs j=>List.length_drop;obtain⟨ca,a1,a2,a3,a4,a5,a6⟩:=zhx (vs.drop (i+1)) i w.drew cs l (by rw [List.length_drop];omega) z (λu hu=>h2 u (List.mem_of_mem_drop hu));obtain⟨cb,b1,b2,b3,b4,b5,b6⟩:=zhx [.slice none 0 0] k (w.drew.setCells g i (vs.drop (i+1))) ca a1 (by simp;omega) a3 (λu hu=>by rw [List.mem_singleton.1 hu];exact⟨_,_,_,rfl⟩);have B:∀j,j<n->cs[j]?=vs[j]?:=λj hj=>by
  have e1:vs[j]?=some vs[j]:=List.getElem?_eq_getElem om9;have e2:=h3 j _ e1;rw [zaF,l.cell] at e2;rw [e2,e1]
 have f:zbS g w.drew ((w.drew.setCells g i (vs.drop (i+1))).setCells g k [.slice none 0 0]):=by
  have f1:=zhB g (vs.drop (i+1)) i w.drew;have f2:=zhB g [.slice none 0 0] k (w.drew.setCells g i (vs.drop (i+1)));exact⟨f2.1.trans f1.1,λp hp=>(f2.2 p hp).trans (f1.2 p hp)⟩
 have HG:Hid (zcg ((w.drew.setCells g i (vs.drop (i+1))).setCells g k [.slice none 0 0]) base g k a (Ls.eraseIdx i)):=by
  refine zoY h y hi h1 h4 b1 b3 om9 (λj hj=>?_) (λj hj E=>?_) (zbn.of_far ⟨f.1,f.2⟩)
  ·rw [b4 j om9,a4 j hj,B j om9]
  ·rw [b4 j E];have:=a5 (j - i) (by rw [List.length_drop];omega);rw [show i+(j - i)=j by omega,List.getElem?_drop,show i+1+(j - i)=j+1 by omega] at this;exact this
 have m:Hid (∀w0:World,w0.heap.size<=g->Below w0.heap.size w0 w->Below w0.heap.size w0 ((w.drew.setCells g i (vs.drop (i+1))).setCells g k [.slice none 0 0])):=λw0 hg hb=>by
  exact zfw hg _ _ _ (zfw hg _ _ _ hb.drew)
 have D:=zqc (c:=a - k) a1 (by omega:k<ca.size);obtain⟨X,C,r⟩:∃X:Addr,(if a=i+1 then(some ⟨g,0,none⟩:oA9) else some ⟨g,i+1,none⟩)=some X/\∀j u,(vs.drop (i+1))[j]?=some u->w.drew.cell? (X.add j)=some u:=by
  by_cases hc:a=i+1
  ·refine⟨⟨g,0,none⟩,if_pos hc,λj u hu=>?_⟩;rw [List.drop_of_length_le om9] at hu;simp at hu
  ·refine⟨⟨g,i+1,none⟩,if_neg hc,λj u hu=>?_⟩;rw [List.getElem?_drop] at hu;have:=h3 _ _ hu;rw [zaF] at this;rw [show(⟨g,i+1,none⟩:Addr).add j=⟨g,i+1+j,none⟩ from by unfold Addr.add;split<;>simp_all];exact this
 have b:=run_append_room_cells (P:=prog) w.drew 30 30 71 i9 underlying30 t g 0 i a X (n - (i+1)) (a - (i+1)) (vs.drop (i+1)) (by rw [d,List.length_drop];omega) r (λu hu=>by obtain⟨A,n,c,e⟩:=h2 u (List.mem_of_mem_drop hu);rw [e];rfl) om9 (λj hj=>by
  rw [d,List.length_drop] at*;rw [show w.drew.cell? ⟨g,0+i*1+j,none⟩=w.cell? ⟨g,0+i*1+j,none⟩ from rfl,l.cell,Array.getElem?_eq_getElem om9];rfl) (λj hj=>l.frozen _)
 rw [d,Nat.mul_one,Nat.zero_add] at b;have i1:(0:Int)<=(i:Int):=om9;have i2:(i:Int)<=((i+1:Nat):Int):=om9;have i3:((i+1:Nat):Int)<=(n:Int):=om9;have i4:¬((i:Int)=((i+1:Nat):Int)):=om9;have ek:i+(n - (i+1))=k:=om9;have i5:((i:Int)==((i+1:Nat):Int))=false:=by rw [beq_eq_false_iff_ne];exact i4
 rw [x] at C b HG m D i2 i3 i4 i5 ek;rw [ek] at b;have i0:(0:Int)<=(j9:Int):=om9;have i6:(i:Int)<=(a:Int):=om9;have i7:(n:Int)<=(a:Int):=om9;clear h h1 h2 h3 h4 l z a1 a2 a3 a4 a5 a6 b1 b2 b3 b4 b5 b6 B f t d x ek r;go_enter func133,ntmps133;go_wp2_with fail;refine rg csn (λhHeld=>?_);refine tk 0 ?_;refine tk 1 ?_;refine tk 2 ?_;refine tk 3 ?_;refine tk 4 ?_;refine tk 5 ?_;refine rc 6 (λKK o=>?_);refine zmd (v:=.slice (some ⟨g,0,none⟩) i a) (u:=.slice (some X) (n - j9) (a - j9)) (v':=.slice (some ⟨g,0,none⟩) k a) (w':=w.drew.setCells g i (vs.drop j9)) (.tmp 22) (.tmp 25) 30 rfl rfl rfl b ?_;refine o.out _ _ csn (λhHeld=>?_);clear o KK b;refine tk 7 ?_;refine rdn ?_;clear hHeld;generalize w.drew.setCells g i (vs.drop j9)=W1 at*;subst y;have j1:(0:Int)<=(k:Int):=om9;have j2:(k:Int)<=(k:Int)+1:=om9;have j4:(k:Int)+1<=(a:Int):=om9;clear i0 i1 i2 i3 i4 i5 i6 i7 F;go_wp2;go_ret;exact⟨rfl,HG.out,m.out⟩
theorem map_get {k:Nat}{G:List (List (Int×Int))}(h:k<G.length):(G.map zcr)[k]?=some (zcr (G.getD k [])):=by
 rw [List.getElem?_map,List.getD_eq_getElem?_getD,List.getElem?_eq_getElem h];rfl
theorem zqt {z:Nat}{A:oA9}{n c:Nat}{R:ziB}{w:World}(hz:z<=255)(h:zbj w A n c R):
  Calls prog 12 #[.agg #[.int .u8 (z:Int),.slice A n c]] w (zeW w (min n 6) (z%7) (zgl (z%7) R (min n 6))):=by
 obtain⟨i9,am,ao,ab,ac⟩:=info_parts zeK;have HD:=lh9 (zgA (z%7) R (min n 6));have HI:Hid (∀k,k<min n 6->(zcR (z%7) R (min n 6)).getD k []=zef (z%7) (R k).2.2.2):=λk hk=>by
  unfold zcR;rw [List.getD_eq_getElem?_getD,List.getElem?_map,List.getElem?_range hk];rfl
 have B:=lh9 (λW (hb:Below w.heap.size w W)=>zja hz (show zbj W A n c R from⟨h.fits,h.small,λr hr=>by
  obtain⟨ad,e,h1,h2,h3⟩:=h.row r hr;exact⟨ad,e,Nat.lt_of_lt_of_le h1 hb.size,zae hb h2,h3.below hb⟩⟩))
 obtain⟨m,hm⟩:∃m,z%7=m:=⟨_,rfl⟩;obtain⟨N,hN⟩:∃N,min n 6=N:=⟨_,rfl⟩;have hm6:m<=6:=om9;have hN6:N<=6:=om9;rw [hm,hN] at HD HI B⊢;have aq:Hid ((zcR m R N).length=N):=zga _ _ _;obtain⟨G,hG⟩:∃G,zcR m R N=G:=⟨_,rfl⟩;have az:zgl m R N=G.map zcr:=by unfold zgl;rw [hG]
 rw [hG] at HI B aq;rw [az] at HD⊢;have ar:Hid (∀k,k<N->(G.getD k []).length=m):=λk hk=>by rw [HI.out k hk,zcU]
 have HS:Hid (∀k,k<N->(G.map zcr).take (k+1)=(G.map zcr).take k++[zcr (G.getD k [])]):=λk hk=>zgg (map_get (by rw [aq.out];exact hk));obtain⟨T,hT⟩:∃T,G.map zcr=T:=⟨_,rfl⟩;rw [hT] at HD HS⊢;have HL:Hid (T.length=N):=HD.out.rows;obtain⟨au,av,aw,bz⟩:=zbg w 24 36 #[.int .u8 (z:Int),.slice A n c] #[.slice none 0 0,.int .i64 0];obtain⟨g0,g1⟩:=av.c2;have HB:=lh9 au;have ap:=lh9 aw;clear h hz hm hN hG az hT au av aw bz HI;unfold zeW;go_enter func12,ntmps12;go_wp2_with fail;(with_reducible refine(B.out _ HB.out).mono ?_);rintro e w1 ⟨Q,q,rfl,a5,hb⟩;have a6:=lh9 (zac HB.out hb);have aj:=lh9 (zad hb ap.out);have a9:=lh9 a5;have a7:=lh9 aj.out.lt;clear hb a5 HB ap g0 g1 B;go_wp2_with fail;obtain⟨ax,ay,-⟩:=zaD w1 36 #[.slice none 0 0,.int .i64 (m:Int)];generalize w1.alloc (.cells #[.slice none 0 0,.int .i64 (m:Int)] 36)=W3 at*;have hB:=ax;have hP:=ay;obtain⟨gp,Z⟩:∃g,w1.heap.size=g:=⟨_,rfl⟩;have al:w1.heap.size<=gp:=om9;obtain⟨mm,an⟩:∃z:Int,(m:Int)=z:=⟨_,rfl⟩;rw [Z] at hP
 first
  |rw [Z]
  |skip
 rw [an] at hP;have a8:=lh9 an;have hlt0:w.heap.size+1<gp:=by have:=a7.out;omega
 clear ax ay Z an
 go_loopg [6] (N+1) (λg ix wr=>∃(k:Nat) (v:Value) (vs:List Value),k<=N/\N<g+k/\ix=.int .i64 k/\zaN (zaE zbZ) wr (gp+1) 80 v (T.take k) vs/\Blk wr gp 36 #[v,.int .i64 mm]/\Below w1.heap.size w1 wr)
 case atStart=>exact⟨0,_,_,Nat.zero_le _,om9,rfl,zaN.nil _ _ _,hP,hB⟩
 case round=>
  clear hB hP;obtain⟨k,v,vs,hkn,hg,rfl,P,hP,hB⟩:=hrel;have ai:(T.take k).length=k:=by rw [List.length_take,HL.out];omega
  by_cases hlt:k<N
  ·obtain⟨Av,cv,rfl,-⟩:=P.shape ai;obtain⟨ad,Bk,dk,rfl,-,a2,a1⟩:=a9.out.get zdE (Below.refl _ _) hlt (ar.out k hlt);have M:=lh9 a2;have ak:=lh9 a1;have ae:=lh9 (ar.out k hlt);have ba:decide ((k:Int)<(N:Int))=true:=decide_eq_true om9;have a3:decide (k<N)=true:=decide_eq_true hlt;have i1:(0:Int)<=(k:Int):=om9;have i2:(k:Int)<(N:Int):=om9;have af:=lh9 (HS.out k hlt);obtain⟨Lk,a0⟩:∃L,G.getD k []=L:=⟨_,rfl⟩;rw [a0] at ak ae af;have O:=lh9 ai;have p0:=zae hB M.out;have ag:=(Below.refl wr.heap.size wr).drew;have b:=lh9 (P.below (zaq zao) ag);have HP:=lh9 (zad ag hP);have HB:=lh9 (zac hB ag);clear P hP hB ag ai a2 a1 a0;go_upto_region 6 with fail;refine rg (csc p0 csn) (λhHeld=>?_);clear p0;generalize wr.drew=D at*;refine tk 0 ?_;refine tk 2 ?_;refine tk 3 ?_;refine tk 4 ?_;refine tk 5 ?_;refine rcb 1 6 (λKK hK=>?_) (λKK hK=>?_)
   ·obtain⟨q0,q1⟩:=HP.out.c2;go_simp;clear q0 q1;refine hK.out _ _ hHeld (λhHeld=>?_);clear hK KK;refine rc 6 (λKK hK=>?_);go_simp;(with_reducible refine(zkm (ak.out.below HB.out)).mono ?_);rintro e w5 ⟨A5,c5,rfl,aa,hb⟩;refine hK.out _ _ (Cs.below hHeld hb) (λhHeld=>?_);clear hK KK;have b:=lh9 (b.out.below (zaq zao) hb);have HP:=lh9 (zad hb HP.out);have HB:=lh9 (zac HB.out hb);have HR:=lh9 aa;clear hb aa;refine rc 7 (λKK hK=>?_);go_simp;obtain⟨t1,t2,-⟩:=zaD w5 80 #[.slice A5 m c5];refine hK.out _ _ (Cs.below hHeld t1) (λhHeld=>?_);clear hK KK;have b:=lh9 (b.out.below (zaq zao) t1);have HP:=lh9 (zad t1 HP.out);have HB:=lh9 (zac HB.out t1);have HR:=lh9 (zaE.below zao HR.out t1);have F:=lh9 HB.out.size;clear t1 t2;have l:=b.out.own;rw [O.out] at l;have s:=lh9 l;have J:=lh9 b.out.sl;have j:=lh9 (zaQ w5 (.slice A5 m c5) 80);have E:=lh9 HP.out.lt;have y:=lh9 (λr (h:(Value.slice Av k cv).ownBlock=some r)=>b.out.own.lt r h);have K:Hid (∀u ∈(Value.slice none 0 0).cells.toList,zbf u):=by intro u hu;simp [Value.cells] at hu;exact⟨_,_,_,hu⟩
    have H:Hid (∀u ∈ [Value.slice A5 m c5],zbf u):=by intro u hu;simp at hu;exact⟨_,_,_,hu⟩
    have p:Hid (∀u ∈ [Value.slice A5 m c5],u.oneCell'=true):=by intro u hu;simp at hu;subst hu;rfl
    clear l;refine rc 8 (λKK hK=>?_);refine zbe _ (.tmp 21) (.tmp 27) 34 rfl (gp+1) 80 i9 (.slice none 0 0) 1 24 underlying34 am ao ab ac rfl de9 (.slice Av k cv) k vs rfl s.out ⟨w5.heap.size,0,none⟩ 1 1 [.slice A5 m c5] rfl rfl j.out p.out (by unfold maxLen;omega) om9 E.out J.out K.out H.out ?_;intro v' w8 o a Y t;have d:=zaN.grow (n:=k+1) (L:=zcr Lk) (zaq zao) b.out HR.out (by rw [zcI];exact ae.out) o (by rw [O.out]) a t;rw [<-af.out] at d;obtain⟨A8,c8,rfl,-⟩:=d.shape (n:=k+1) (by rw [List.length_take,HL.out];omega);have f:Hid (Blk w8 gp 36 #[.slice Av k cv,.int .i64 mm]):=zaC HP.out a (λe=>by have:=(y.out _ e).1;omega);have x:=lh9 (HB.out.grown a F.out (λr hr=>by have:=(y.out r hr).1;omega));have I:=lh9 (d.slot (g:=gp) (i:=0) (u:=(.slice A8 (k+1) c8)) (Nat.lt_succ_self gp) (λh3=>zcV h3 f.out (zbb _ _ _ _) (f.out.cell 0) (.slice A8 (k+1) c8)));have X:Hid (Blk (w8.setCell ⟨gp,0,none⟩ (.slice A8 (k+1) c8)) gp 36 #[.slice A8 (k+1) c8,.int .i64 mm]):=f.out.set_ 0 (.slice A8 (k+1) c8);have C:=lh9 (bl1 (.slice A8 (k+1) c8) al x.out);clear d o a Y t b HR s J j y K H p;have p0:=zae x.out M.out;refine hK.out _ _ (csc p0 csn) (λhHeld=>?_);clear hK KK p0;obtain⟨S,U⟩:=f.out.c2;have V:=f.out.frozen 0;have p0:=zae C.out M.out;refine tk 9 ?_;refine rc 10 (λKK hK=>?_);go_simp;refine hK.out _ _ (csc p0 csn) (λhHeld=>?_);clear hK KK;refine rdn ?_;clear hHeld p0 S U V f x HP HB E F;go_wp2;go_roundg (N - k)
    case measure=>omega
    case rel=>exact⟨k+1,_,_,om9,om9,by go_num,I.out,X.out,C.out⟩
   ·go_simp;(with_reducible refine(zkm (ak.out.below HB.out)).mono ?_);rintro e w5 ⟨A5,c5,rfl,aa,hb⟩;refine hK.out _ _ (Cs.below hHeld hb) (λhHeld=>?_);clear hK KK;have b:=lh9 (b.out.below (zaq zao) hb);have HP:=lh9 (zad hb HP.out);have HB:=lh9 (zac HB.out hb);have HR:=lh9 aa;clear hb aa;refine rcb 1 7 (λKK hK=>?_) (λKK hK=>?_)
    ·obtain⟨q0,q1⟩:=HP.out.c2;go_simp;clear q0 q1;refine hK.out _ _ hHeld (λhHeld=>?_);clear hK KK;refine rc 7 (λKK hK=>?_);go_simp;obtain⟨t1,t2,-⟩:=zaD w5 80 #[.slice A5 m c5];refine hK.out _ _ (Cs.below hHeld t1) (λhHeld=>?_);clear hK KK;have b:=lh9 (b.out.below (zaq zao) t1);have HP:=lh9 (zad t1 HP.out);have HB:=lh9 (zac HB.out t1);have HR:=lh9 (zaE.below zao HR.out t1);have F:=lh9 HB.out.size;clear t1 t2;have l:=b.out.own;rw [O.out] at l;have s:=lh9 l;have J:=lh9 b.out.sl;have j:=lh9 (zaQ w5 (.slice A5 m c5) 80);have E:=lh9 HP.out.lt;have y:=lh9 (λr (h:(Value.slice Av k cv).ownBlock=some r)=>b.out.own.lt r h);have K:Hid (∀u ∈(Value.slice none 0 0).cells.toList,zbf u):=by intro u hu;simp [Value.cells] at hu;exact⟨_,_,_,hu⟩
     have H:Hid (∀u ∈ [Value.slice A5 m c5],zbf u):=by intro u hu;simp at hu;exact⟨_,_,_,hu⟩
     have p:Hid (∀u ∈ [Value.slice A5 m c5],u.oneCell'=true):=by intro u hu;simp at hu;subst hu;rfl
     clear l;refine rc 8 (λKK hK=>?_);refine zbe _ (.tmp 21) (.tmp 27) 34 rfl (gp+1) 80 i9 (.slice none 0 0) 1 24 underlying34 am ao ab ac rfl de9 (.slice Av k cv) k vs rfl s.out ⟨w5.heap.size,0,none⟩ 1 1 [.slice A5 m c5] rfl rfl j.out p.out (by unfold maxLen;omega) om9 E.out J.out K.out H.out ?_;intro v' w8 o a Y t;have d:=zaN.grow (n:=k+1) (L:=zcr Lk) (zaq zao) b.out HR.out (by rw [zcI];exact ae.out) o (by rw [O.out]) a t;rw [<-af.out] at d;obtain⟨A8,c8,rfl,-⟩:=d.shape (n:=k+1) (by rw [List.length_take,HL.out];omega);have f:Hid (Blk w8 gp 36 #[.slice Av k cv,.int .i64 mm]):=zaC HP.out a (λe=>by have:=(y.out _ e).1;omega);have x:=lh9 (HB.out.grown a F.out (λr hr=>by have:=(y.out r hr).1;omega));have I:=lh9 (d.slot (g:=gp) (i:=0) (u:=(.slice A8 (k+1) c8)) (Nat.lt_succ_self gp) (λh3=>zcV h3 f.out (zbb _ _ _ _) (f.out.cell 0) (.slice A8 (k+1) c8)));have X:Hid (Blk (w8.setCell ⟨gp,0,none⟩ (.slice A8 (k+1) c8)) gp 36 #[.slice A8 (k+1) c8,.int .i64 mm]):=f.out.set_ 0 (.slice A8 (k+1) c8);have C:=lh9 (bl1 (.slice A8 (k+1) c8) al x.out);clear d o a Y t b HR s J j y K H p;have p0:=zae x.out M.out;refine hK.out _ _ (csc p0 csn) (λhHeld=>?_);clear hK KK p0;obtain⟨S,U⟩:=f.out.c2;have V:=f.out.frozen 0;have p0:=zae C.out M.out;refine tk 9 ?_;refine rc 10 (λKK hK=>?_);go_simp;refine hK.out _ _ (csc p0 csn) (λhHeld=>?_);clear hK KK;refine rdn ?_;clear hHeld p0 S U V f x HP HB E F;go_wp2;go_roundg (N - k)
     case measure=>omega
     case rel=>exact⟨k+1,_,_,om9,om9,by go_num,I.out,X.out,C.out⟩
    ·go_simp;obtain⟨t1,t2,-⟩:=zaD w5 80 #[.slice A5 m c5];refine hK.out _ _ (Cs.below hHeld t1) (λhHeld=>?_);clear hK KK;have b:=lh9 (b.out.below (zaq zao) t1);have HP:=lh9 (zad t1 HP.out);have HB:=lh9 (zac HB.out t1);have HR:=lh9 (zaE.below zao HR.out t1);have F:=lh9 HB.out.size;clear t1 t2;refine rc 1 (λKK hK=>?_);obtain⟨q0,q1⟩:=HP.out.c2;go_simp;clear q0 q1;refine hK.out _ _ hHeld (λhHeld=>?_);clear hK KK;have l:=b.out.own;rw [O.out] at l;have s:=lh9 l;have J:=lh9 b.out.sl;have j:=lh9 (zaQ w5 (.slice A5 m c5) 80);have E:=lh9 HP.out.lt;have y:=lh9 (λr (h:(Value.slice Av k cv).ownBlock=some r)=>b.out.own.lt r h);have K:Hid (∀u ∈(Value.slice none 0 0).cells.toList,zbf u):=by intro u hu;simp [Value.cells] at hu;exact⟨_,_,_,hu⟩
     have H:Hid (∀u ∈ [Value.slice A5 m c5],zbf u):=by intro u hu;simp at hu;exact⟨_,_,_,hu⟩
     have p:Hid (∀u ∈ [Value.slice A5 m c5],u.oneCell'=true):=by intro u hu;simp at hu;subst hu;rfl
     clear l;refine rc 8 (λKK hK=>?_);refine zbe _ (.tmp 21) (.tmp 27) 34 rfl (gp+1) 80 i9 (.slice none 0 0) 1 24 underlying34 am ao ab ac rfl de9 (.slice Av k cv) k vs rfl s.out ⟨w5.heap.size,0,none⟩ 1 1 [.slice A5 m c5] rfl rfl j.out p.out (by unfold maxLen;omega) om9 E.out J.out K.out H.out ?_;intro v' w8 o a Y t;have d:=zaN.grow (n:=k+1) (L:=zcr Lk) (zaq zao) b.out HR.out (by rw [zcI];exact ae.out) o (by rw [O.out]) a t;rw [<-af.out] at d;obtain⟨A8,c8,rfl,-⟩:=d.shape (n:=k+1) (by rw [List.length_take,HL.out];omega);have f:Hid (Blk w8 gp 36 #[.slice Av k cv,.int .i64 mm]):=zaC HP.out a (λe=>by have:=(y.out _ e).1;omega);have x:=lh9 (HB.out.grown a F.out (λr hr=>by have:=(y.out r hr).1;omega));have I:=lh9 (d.slot (g:=gp) (i:=0) (u:=(.slice A8 (k+1) c8)) (Nat.lt_succ_self gp) (λh3=>zcV h3 f.out (zbb _ _ _ _) (f.out.cell 0) (.slice A8 (k+1) c8)));have X:Hid (Blk (w8.setCell ⟨gp,0,none⟩ (.slice A8 (k+1) c8)) gp 36 #[.slice A8 (k+1) c8,.int .i64 mm]):=f.out.set_ 0 (.slice A8 (k+1) c8);have C:=lh9 (bl1 (.slice A8 (k+1) c8) al x.out);clear d o a Y t b HR s J j y K H p;have p0:=zae x.out M.out;refine hK.out _ _ (csc p0 csn) (λhHeld=>?_);clear hK KK p0;obtain⟨S,U⟩:=f.out.c2;have V:=f.out.frozen 0;have p0:=zae C.out M.out;refine tk 9 ?_;refine rc 10 (λKK hK=>?_);go_simp;refine hK.out _ _ (csc p0 csn) (λhHeld=>?_);clear hK KK;refine rdn ?_;clear hHeld p0 S U V f x HP HB E F;go_wp2;go_roundg (N - k)
     case measure=>omega
     case rel=>exact⟨k+1,_,_,om9,om9,by go_num,I.out,X.out,C.out⟩
  ·have hk:k=N:=om9;subst hk;have ba:decide ((k:Int)<(k:Int))=false:=si9;have a3:decide (k<k)=false:=si9;rw [List.take_of_length_le (by rw [HL.out];exact Nat.le_refl _)] at P;obtain⟨A7,c7,rfl,a4⟩:=P.refm HD.out om9 (show m<=64 by omega);obtain⟨q0,q1⟩:=hP.c2;have ah:=zad hB aj.out;obtain⟨S,V,U,sf1⟩:=st2 ah (.slice A7 k c7);obtain⟨r0,r1⟩:=(sn2 ah (.slice A7 k c7) (.int .i64 (m:Int))).c2;have HG:=lh9 (grm2 a4 ah (zac a6.out hB) om9);unfold zeW at HG;obtain rfl:=a8.out;clear P a4 ah hB hP ai;go_wp2;refine bodyPost_ret (v:=.agg #[.slice A7 k c7,.int .i64 (m:Int)]) (by simp [results,results12,go_sem,r0,r1]) rfl ?_;exact HG.out
