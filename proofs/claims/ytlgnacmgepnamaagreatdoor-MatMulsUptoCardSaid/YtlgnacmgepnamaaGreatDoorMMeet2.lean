/- What this claim leans on. -/
import Derived.Test.YtlgnacmgepnamaaGreatDoorMBunB
namespace Go.Proofs.YtlgnacmgepnamaaGreatDoor
open Go Go.RowKit
set_option maxHeartbeats 16000000
set_option linter.unusedVariables false
def zcV (D:List Nat)(a0 a:Act):Prop:=a.defers=a0.defers/\a.tmps.size=a0.tmps.size/\∀j,j ∉ D->a.tmps.getD j undef=a0.tmps.getD j undef
theorem zcV.refl (D:List Nat)(a:Act):zcV D a a:=⟨rfl,rfl,λ_ _=>rfl⟩
theorem rd_ne {a:Act}{i j:Nat}(h:j≠i)(v:Value):(a.put (some i) v).tmps.getD j undef=a.tmps.getD j undef:=by
 simp only [Act.put,Array.getD_eq_getD_getElem?]
 rw [Array.getElem?_setIfInBounds_ne (Ne.symm h)]
theorem zaG {a:Act}{i:Nat}(h:i<a.tmps.size)(v:Value):(a.put (some i) v).tmps.getD i undef=v:=by
 simp only [Act.put,Array.getD_eq_getD_getElem?]
 rw [Array.getElem?_setIfInBounds_self_of_lt h]
 rfl
theorem zgE (a:Act)(i:Nat)(v:Value):(a.put (some i) v).tmps.size=a.tmps.size:=by simp [Act.put]
theorem zcV.put {D:List Nat}{a0 a:Act}(h:zcV D a0 a){i:Nat}(hi:i ∈ D)(v:Value):zcV D a0 (a.put (some i) v):=
 ⟨h.1,by rw [zgE];exact h.2.1,λj hj=>(rd_ne (λe=>hj (by rw [e];exact hi)) v).trans (h.2.2 j hj)⟩
theorem zcV.get {D:List Nat}{a0 a:Act}(h:zcV D a0 a)(j:Nat)(hj:j ∉ D){v:Value}(hv:a0.tmps.getD j undef=v):a.tmps.getD j undef=v:=(h.2.2 j hj).trans hv
theorem zcV.lt {D:List Nat}{a0 a:Act}(h:zcV D a0 a){j:Nat}(hj:j<a0.tmps.size):j<a.tmps.size:=by rw [h.2.1];exact hj
theorem act_ext {a b:Act}(hd:a.defers=b.defers)(hs:a.tmps.size=b.tmps.size)(hg:∀j,a.tmps.getD j undef=b.tmps.getD j undef):a=b:=by
 obtain⟨at_,ad⟩:=a
 obtain⟨bt,bd⟩:=b
 simp only at hd hs hg
 subst hd
 congr 1
 refine Array.ext hs λj h1 h2=>?_
 have:=hg j
 simp only [Array.getD_eq_getD_getElem?,Array.getElem?_eq_getElem h1,Array.getElem?_eq_getElem h2] at this
 exact this
def zcL (vs:List (Nat×Value))(a:Act):Act:=vs.foldl (λa p=>a.put (some p.1) p.2) a
theorem zhn (vs:List (Nat×Value))(a:Act):(zcL vs a).tmps.size=a.tmps.size/\(zcL vs a).defers=a.defers:=by
 unfold zcL
 induction vs generalizing a with
 |nil=>exact⟨rfl,rfl⟩
 |cons p t ih=>rw [List.foldl_cons];have:=ih (a.put (some p.1) p.2);exact⟨this.1.trans (zgE _ _ _),this.2⟩
theorem znt (vs:List (Nat×Value))(a b:Act)(hs:b.tmps.size=a.tmps.size)(hv:∀p ∈ vs,a.tmps.getD p.1 undef=p.2):∀j,(zcL vs b).tmps.getD j undef=if j ∈ vs.map Prod.fst then a.tmps.getD j undef else b.tmps.getD j undef:=by
 intro j
 induction vs generalizing b with
 |nil=>rfl
 |cons p t ih=>
   show(zcL t (b.put (some p.1) p.2)).tmps.getD j undef=_
   rw [ih (b.put (some p.1) p.2) (by rw [zgE];exact hs) (λq hq=>hv q (List.mem_cons_of_mem _ hq))]
   by_cases h1:j ∈ t.map Prod.fst
   ·rw [if_pos h1,if_pos (by rw [List.map_cons];exact List.mem_cons_of_mem _ h1)]
   ·rw [if_neg h1]
    by_cases h2:j=p.1
    ·rw [if_pos (by rw [List.map_cons,h2];exact List.mem_cons_self),h2,hv p List.mem_cons_self]
     by_cases h3:p.1<b.tmps.size
     ·exact zaG h3 _
     ·have h4:=hv p List.mem_cons_self
      have h5:¬ p.1<a.tmps.size:=by rw [<-hs];exact h3
      simp only [Array.getD_eq_getD_getElem?] at h4⊢
      rw [Array.getElem?_eq_none (by omega)] at h4
      rw [Array.getElem?_eq_none (by rw [zgE];omega)]
      exact h4
    ·rw [if_neg (by rw [List.map_cons];intro h;rcases List.mem_cons.1 h with h|h;exact h2 h;exact h1 h)]
     exact rd_ne h2 _
theorem zcV.eq {D:List Nat}{a0 a:Act}(h:zcV D a0 a)(vs:List (Nat×Value))(hD:vs.map Prod.fst=D)(hv:∀p ∈ vs,a.tmps.getD p.1 undef=p.2):a=zcL vs a0:=by
 subst hD
 refine act_ext (h.1.trans (zhn vs a0).2.symm) (h.2.1.trans (zhn vs a0).1.symm) λj=>?_
 rw [znt vs a a0 h.2.1.symm hv j]
 by_cases h1:j ∈ vs.map Prod.fst
 ·rw [if_pos h1]
 ·rw [if_neg h1];exact h.2.2 j h1
section
variable {P:Program}{ops0:Array Oper}{Q:Exit->Act->World->Prop}{md:Region.Mode}{S:World->Prop}
theorem zbz {J:Act->Array Bool->Act->World->Prop}{L:Array Bool}{a0:Act}{l0:Array Bool}{w0:World}{fuel:Nat}(hd:due l0=fuel)(h0:J a0 l0 a0 w0)
  (hstep:∀(ops:Array Oper) (A0:Act) (Q':Exit->Act->World->Prop),ops=ops0->A0.tmps.size=a0.tmps.size->(∀i d,A0.tmps.getD i d=a0.tmps.getD i d)->(∀l a w,J A0 l a w->Region.ready md ops l=[]->l=L)/\∀l a w i,J A0 l a w->l≠L->i ∈ Region.ready md ops l->wpOp P ops Q' i (λa' w'=>S w'/\J A0 (l.setIfInBounds i true) a' w') a w)
  (hgoal:∀a w,J a0 L a w->wpAnyH P md ops0 Q S (due L) L a w):wpAnyH P md ops0 Q S fuel l0 a0 w0:=
 zld (hstep ops0 a0 Q rfl rfl (λ_ _=>rfl)).1 (hstep ops0 a0 Q rfl rfl (λ_ _=>rfl)).2 hgoal fuel l0 a0 w0 hd h0
theorem wpOp_go {ops:Array Oper}{i:Nat}{o:Oper}{K:Act->World->Prop}{a:Act}{w:World}(ho:ops[i]?=some o)(hg:o.guard=none)
  (h:∀K':Act->World->Prop,Shut (∀a w,K a w->K' a w)->Oper.wp P o a w K' Q):wpOp P ops Q i K a w:=
 wpOp_step ho λK' hK=>by
  rw [if_pos (by unfold Region.wanted;rw [hg])]
  exact h K' hK
theorem zms {o:Oper}{K:Act->World->Prop}{a:Act}{w w':World}{v:Value}(h:(execOp a.eval o).run P w=.ok (.value v) w')(hK:K (a.put o.dst v) w'):Oper.wp P o a w K Q:=by
 unfold Oper.wp;rw [h];exact hK
theorem zdk {o:Oper}{K:Act->World->Prop}{a:Act}{w:World}{v:Value}{x:Nat}(ho:o.op=.move (.tmp x)\/o.op=.assign (.tmp x))(hx:a.tmps.getD x undef=v)(hK:K (a.put o.dst v) w):Oper.wp P o a w K Q:=by
 refine zms (v:=v) (w':=w) ?_ hK
 unfold execOp
 rcases ho with ho|ho<;>rw [ho]<;>simp only [Act.eval,hx]<;>rfl
theorem zbf {o:Oper}{K:Act->World->Prop}{a:Act}{w:World}{v:Value}{x k:Nat}{vs:Array Value}(ho:o.op=.extract (.tmp x) k)(hx:a.tmps.getD x undef=.tuple vs)(hk:vs[k]?=some v)(hK:K (a.put o.dst v) w):Oper.wp P o a w K Q:=by
 refine zms (v:=v) (w':=w) ?_ hK
 unfold execOp
 rw [ho]
 simp only [Act.eval,hx,Instr.extract,hk]
 rfl
end
set_option maxRecDepth 100000
theorem zcY (x:Nat)(A:oA9)(n c:Nat)(w:World)(hA:zag w x A n c)(hn:n<=1):
  Calls Tryz.prog 151 #[.agg #[.slice A n c]] w λe w'=>e=.returned (.tuple #[.int .u64 (wd x 0:Nat),.bool true])/\Below w.heap.size w w':=by
 have WX:=(λw' (h:Below w.heap.size w w')=>zdu x A n c 0 w' (hA.below h))
 obtain⟨a,ha⟩:∃a,wd x 0=a:=⟨_,rfl⟩
 rw [ha] at WX⊢
 have HWX:=lh9 WX
 have h1:decide ((1:Int)<(n:Int))=false:=by simp;omega
 have h2:decide ((n:Int)>1)=false:=by simp;omega
 have h3:¬ 1<n:=by omega
 clear WX ha hA
 go_enter Tryz.func151,Tryz.ntmps151
 go_wp2_with fail
 obtain⟨b1,b2,b5⟩:=zaD w 44 #[.slice A n c]
 refine(HWX.out _ b1).mono ?_
 rintro e w1 ⟨rfl,hb⟩
 have hB:=zac b1 hb
 clear hb b1 b2 b5
 go_wp2
 go_ret2
 exact⟨rfl,hB⟩
theorem zcA (A:oA9)(n c:Nat)(w:World)(hn:1<n):
  Calls Tryz.prog 151 #[.agg #[.slice A n c]] w λe w'=>e=.returned (.tuple #[.int .u64 0,.bool false])/\Below w.heap.size w w':=by
 go_enter Tryz.func151,Tryz.ntmps151
 go_wp2
 go_ret2
 exact⟨rfl,(Below.refl _ w).alloc (Nat.le_refl _) _⟩
def TW (x t:Nat):Prop:=(x=0/\t=0)\/∃m,x=2^t*(2*m+1)
def zbE (x:Nat):Nat:=if x=0 then 0 else Lib.ctzFrom x x
theorem zla {x t:Nat}{m:Nat}(h:x=2^t*(2*m+1)):x / 2^t%2=1:=by
 rw [h,Nat.mul_div_cancel_left _ (Nat.two_pow_pos t)];omega
theorem tw_low {x t j:Nat}{m:Nat}(h:x=2^t*(2*m+1))(hj:j<t):x / 2^j%2=0:=by
 obtain⟨s,rfl⟩:∃s,t=j+(s+1):=⟨t - j - 1,by omega⟩
 rw [h,Nat.pow_add,Nat.mul_assoc,Nat.mul_div_cancel_left _ (Nat.two_pow_pos j),Nat.pow_succ,Nat.mul_comm (2^s) 2,Nat.mul_assoc]
 exact Nat.mul_mod_right _ _
theorem tw_pos {x t:Nat}{m:Nat}(h:x=2^t*(2*m+1)):x≠0:=by
 have:=Nat.two_pow_pos t
 rw [h]
 exact Nat.ne_of_gt (Nat.mul_pos this (by omega))
theorem tw_N (x:Nat):TW x (zbE x):=by
 unfold TW zbE
 by_cases h:x=0
 ·exact .inl ⟨h,by rw [if_pos h]⟩
 ·rw [if_neg h]
  obtain⟨m,hm,_⟩:=Lib.ctzFrom_spec x x (by omega) Nat.lt_two_pow_self
  exact .inr ⟨m,hm⟩
theorem tw_find {x t:Nat}(hlow:∀j,j<t->x / 2^j%2=0)(hx:x=0->t=0)(h1:x≠0->x / 2^t%2=1):t=zbE x:=by
 rcases tw_N x with⟨e,h⟩|⟨m,h⟩
 ·rw [hx e,h]
 ·have h0:=tw_pos h
  rcases Nat.lt_trichotomy t (zbE x) with hl|hl|hl
  ·have:=tw_low h hl
   rw [h1 h0] at this;omega
  ·exact hl
  ·have:=zla h
   rw [hlow _ hl] at this;omega
theorem tw_of {x t m:Nat}(h:x=2^t*(2*m+1)):t=zbE x:=
 tw_find (λj hj=>tw_low h hj) (λe=>absurd e (tw_pos h)) (λ_=>zla h)
theorem zoG {x k:Nat}(h0:x%18446744073709551616^k=0)(hw:wd x k≠0):64*k+Lib.ctz 64 (wd x k)=zbE x:=by
 have hlt:=zcd x k
 obtain⟨m,hm,hc⟩:=Lib.ctzFrom_spec 64 (wd x k) (by omega) (by simpa using hlt)
 have ec:Lib.ctz 64 (wd x k)=Lib.ctzFrom 64 (wd x k):=by unfold Lib.ctz;rw [if_neg hw]
 rw [ec]
 generalize Lib.ctzFrom 64 (wd x k)=c at*
 obtain⟨s,hs⟩:∃s,64=c+(s+1):=⟨63 - c,by omega⟩
 obtain⟨q,hq⟩:∃q,x / 18446744073709551616^k / 18446744073709551616=q:=⟨_,rfl⟩
 have e1:x / 18446744073709551616^k=18446744073709551616*q+wd x k:=by rw [<-hq];exact(Nat.div_add_mod _ _).symm
 have e2:x=18446744073709551616^k*(x / 18446744073709551616^k):=by
  have:=Nat.div_add_mod x (18446744073709551616^k)
  rw [h0] at this;omega
 have e3:(18446744073709551616:Nat)=2^c*(2*2^s):=by
  rw [show(18446744073709551616:Nat)=2^64 from rfl,hs,Nat.pow_add,Nat.pow_succ,Nat.mul_comm (2^s) 2]
 refine tw_of (m:=2^s*q+m) ?_
 have e4:(18446744073709551616:Nat)^k=2^(64*k):=by rw [show(18446744073709551616:Nat)=2^64 from rfl,<-Nat.pow_mul]
 have e5:18446744073709551616*q+wd x k=2^c*(2*(2^s*q+m)+1):=by
  rw [hm]
  conv=>lhs;rw [e3]
  rw [Nat.mul_assoc,<-Nat.mul_add,Nat.mul_add 2,Nat.mul_assoc,Nat.add_assoc]
 rw [e2,e1,e5,e4,<-Nat.mul_assoc,<-Nat.pow_add]
theorem zix (x:Nat)(A:oA9)(n c:Nat)(w:World)(hA:zag w x A n c)(hn:n<=1099511627776)(hT:zao w):
  Calls Tryz.prog 168 #[.agg #[.slice A n c]] w λe w'=>e=.returned (.int .i64 (zbE x:Nat))/\Below w.heap.size w w':=by
 have hln:=lh9 hA.len
 have hr:=hA.1
 have HT:=lh9 (λo=>hT.on ((Below.refl _ w).alloc (Nat.le_refl _) o))
 have hcl:∀o,Hid (zau (w.alloc o) w.heap.size 1 A n (zaw .u64 (dg 18446744073709551616 x))):=λo=>hr.alloc (Nat.le_refl _) o
 have HC:=lh9 hcl
 clear hA hT hcl hr
 go_enter Tryz.func168,Tryz.ntmps168
 go_wp2_with fail
 go_loop [3,4,8] (λ_ _ ix=>∃k:Nat,k<=n/\ix=.int .i64 k/\Hid (x%18446744073709551616^k=0)) (λ_ _ ix=>n - (intOf ix).toNat)
 case atStart=>exact⟨0,Nat.zero_le _,rfl,by show _=_;simp [Nat.mod_one]⟩
 case round=>
  obtain⟨k,hk,rfl,H⟩:=hrel
  by_cases hlt:k<n
  ·obtain⟨ad,rfl,hadb,hc0⟩:=zbr (HC.out (.cells #[.slice A n c] 44)).out hlt
   rw [zei] at hc0
   by_cases hz:wd x k=0
   ·have HN:Hid (x%18446744073709551616^(k+1)=0):=by
     show _=_
     rw [zaQ 18446744073709551616 x k,H.out,Nat.zero_add]
     unfold wd at hz
     rw [hz,Nat.mul_zero]
    rw [hz] at hc0
    clear hz
    go_wp2
    go_round
    case rel=>exact⟨k+1,by omega,by go_num,HN⟩
    case measure=>simp [intOf];omega
   ·have HV:=lh9 (zoG H.out hz)
    have hwl:=zcd x k
    have WT:=(λw' (h:zao w')=>znU ((wd x k:Nat):Int) ⟨by omega,by omega⟩ w' h)
    have hbd:=ctz_le (wd x k) (by simpa using hwl)
    have et:zge ((wd x k:Nat):Int)=((Lib.ctz 64 (wd x k):Nat):Int):=by unfold zge;simp
    rw [et] at WT
    obtain⟨t,ht⟩:∃t,Lib.ctz 64 (wd x k)=t:=⟨_,rfl⟩
    rw [ht] at WT HV hbd
    obtain⟨a,ha⟩:∃a,wd x k=a:=⟨_,rfl⟩
    rw [ha] at hc0 WT hz
    have hWT:=lh9 WT
    have hz':((a:Int)==0)=false:=beq_eq_false_iff_ne.2 (by omega)
    have hz2:((a:Int) !=0)=true:=by simp;omega
    clear WT ht ha et hz hwl
    go_wp2_with fail
    refine(hWT.out _ (HT.out _)).mono ?_
    rintro e w' ⟨rfl,rfl⟩
    go_wp2
    go_ret
    refine⟨zkS ?_,(Below.refl _ w).alloc (Nat.le_refl _) _⟩
    have:=HV.out
    omega
  ·have hkn:k=n:=by omega
   subst hkn
   have HX:Hid (zbE x=0):=by
    show _=_
    have h1:=zaS (b:=18446744073709551616) (by decide) x
    rw [hln.out] at h1
    have h2:=H.out
    rw [Nat.mod_eq_of_lt h1] at h2
    rw [h2];rfl
   go_wp2
   go_ret
   exact⟨by rw [HX.out];rfl,(Below.refl _ w).alloc (Nat.le_refl _) _⟩
theorem nat_add (x y:Nat)(A D:oA9)(n m c d:Nat)(w:World)(hA:zag w x A n c)(hD:zag w y D m d)(hn:n<=549755813888)(hm:m<=549755813888):
  Calls Tryz.prog 171 #[.agg #[.slice A n c],.agg #[.slice D m d]] w (zaK w (x+y)):=by
 obtain⟨i0,hi0,hz0,hz1,hz2⟩:=info_parts zfi
 have hln:=lh9 hA.len
 have hlm:=lh9 hD.len
 have HA:=lh9 (λw' (hb:Below w.heap.size w w')=>hA.below hb)
 have HD:=lh9 (λw' (hb:Below w.heap.size w w')=>hD.below hb)
 obtain⟨N,hN⟩:∃N,max n m=N:=⟨_,rfl⟩
 have hN1:n<=N:=by omega
 have hN2:m<=N:=by omega
 have hN3:N<=549755813888:=by omega
 obtain⟨Z,hZ⟩:∃Z,madeCells (Value.cells (.int .u64 0)) ((N+1)*i0.size)=Z:=⟨_,rfl⟩
 have HZ:Hid (Z.size=N+1):=by show _=_;rw [<-hZ,size_madeCells,hz1,Nat.mul_one]
 have hmk:∀W:World,(Instr.makeSlice 42 (.int .i64 ((N:Int)+1)) (.int .i64 ((N:Int)+1))).run Tryz.prog W=.ok (.slice (some ⟨W.heap.size,0,none⟩) (N+1) (N+1)) (W.alloc (.cells Z 121)):=λW=>by
  rw [<-hZ];exact zaT _ _ i0 _ Tryz.underlying42 hi0 hz0 _ _ (N+1) (N+1) (Nat.le_refl _) (by rw [hz2];omega) (by omega) W
 have hw1:IntKind.i64.wrap ((N:Int)+1)=(N:Int)+1:=IntWalk.i64_in _ (by omega)
 have hmx1:(if (n:Int)<(m:Int) then(m:Int) else(n:Int))=(N:Int):=by split<;>omega
 have hmx2:(if n<m then(m:Int) else(n:Int))=(N:Int):=by split<;>omega
 have hmx3:(if (m:Int)>(n:Int) then(m:Int) else(n:Int))=(N:Int):=by split<;>omega
 clear hZ hA hD hN
 go_enter Tryz.func171,Tryz.ntmps171
 go_wp2_with fail
 generalize hW:((w.alloc (.cells #[.slice A n c] 44)).alloc (.cells #[.slice D m d] 44)).alloc (.cells #[.slice none 0 0] 44)=W0
 obtain⟨b1,b2,b3,b4,b5⟩:=zbm w 44 44 44 #[.slice A n c] #[.slice D m d] #[.slice none 0 0]
 rw [hW] at b1 b2 b3 b4 b5
 have g1:W0.cell? ⟨w.heap.size,0,none⟩=some (.slice A n c):=b2.cell 0
 have g2:W0.cell? ⟨w.heap.size+1,0,none⟩=some (.slice D m d):=b3.cell 0
 clear hW b2 b3
 have hb0:=b1.drew
 have hk0:=b4.drew
 go_region_held3 (fun w' => Below w.heap.size w w' ∧ w'.cell? ⟨w.heap.size,0,none⟩ = some (.slice A n c) ∧ w'.cell? ⟨w.heap.size + 1,0,none⟩ = some (.slice D m d) ∧ Blk w' (w.heap.size + 1 + 1) 44 #[.slice none 0 0])
  (first|(exact⟨hb0,g1,g2,hk0⟩)|(go_split_ands;(repeat' apply And.intro);all_goals (first|with_reducible assumption|exact zac (by with_reducible assumption) hb|exact zae hb (by with_reducible assumption)|exact zad hb (by with_reducible assumption)|exact zal _ (by with_reducible assumption)|exact zam _ (by with_reducible assumption)|exact Blk.alloc (by with_reducible assumption) _|exact zaf _ (by simp;omega) (by with_reducible assumption)|exact zah _ (by simp;omega) (by with_reducible assumption)|exact Blk.far (by with_reducible assumption) (by simp;omega) _)))
  (first
    |(go_at_call 101;refine(zby x _ _ _ _).mono ?_;rintro e w' ⟨rfl,hb⟩))
 rename_i w1 hb1 hH
 obtain⟨hB,g1,g2,hk⟩:=hH
 have hgs:w.heap.size+3<=w'.heap.size:=by
  have h1:=hb1.size
  have h2:=hb.size
  have h3:W0.drew.heap.size=W0.heap.size:=rfl
  omega
 have hZ0:=Blk.new w' 121 Z
 generalize w'.alloc (.cells Z 121)=W1 at*
 generalize w'.heap.size=gs at*
 clear hmk hmx1 hmx2 hmx3 hb hb1 hb0 hk0 b1 b4 b5 hw1
 go_wp2_with fail
 go_loopg [6,7,17] (N + 2) (fun g v _ i wr => ∃ (k cc : Nat) (cs : Array Value) (out : List Nat),k ≤ N + 1 ∧ N + 1 < g + k ∧ i = .int .i64 k ∧ v = .int .u64 cc ∧ AddB x y k out cc ∧ cs.size = N + 1 ∧ cs.toList.take k = zaw .u64 out ∧ Blk wr gs 121 cs ∧
   Below w.heap.size w wr/\wr.cell? ⟨w.heap.size,0,none⟩=some (.slice A n c)/\wr.cell? ⟨w.heap.size+1,0,none⟩=some (.slice D m d)/\Blk wr (w.heap.size+1+1) 44 #[.slice none 0 0])
 case atStart=>exact⟨0,0,Z,[],by omega,by omega,rfl,rfl,AddB.start x y,HZ.out,rfl,hZ0,hB,g1,g2,hk⟩
 case round=>
  clear hB g1 g2 hk hZ0
  obtain⟨k,cc,cs,out,hk,hg,rfl,rfl,hat,hsz,htk,hcs,hB,g1,g2,hkr⟩:=hrel
  have hcc:=hat.carry
  by_cases hlt:k<N+1
  ·have hst:=hat.step (s:=wd x k+wd y k+cc) rfl
   have ha1:=zcd x k
   have ha2:=zcd y k
   have WX:=lh9 (λw' (h:Below w.heap.size w w')=>zdu x A n c k w' (HA.out w' h))
   have WY:=lh9 (λw' (h:Below w.heap.size w w')=>zdu y D m d k w' (HD.out w' h))
   obtain⟨a,ha⟩:∃a,wd x k=a:=⟨_,rfl⟩
   obtain⟨b,hb⟩:∃a,wd y k=a:=⟨_,rfl⟩
   rw [ha] at WX ha1 hst
   rw [hb] at WY ha2 hst
   have WA:∀w',Calls Tryz.prog 183 #[.int .u64 a,.int .u64 b,.int .u64 cc] w' λe w''=>e=.returned (.tuple #[.int .u64 (((a+b+cc)%18446744073709551616:Nat):Int),.int .u64 (((a+b+cc) / 18446744073709551616:Nat):Int)])/\w'=w'':=λw'=>by
    rw [<-zjs hcc,<-zjr hcc]
    exact zmx a b cc ⟨by omega,by omega⟩ ⟨by omega,by omega⟩ ⟨by omega,by omega⟩ w'
   have HST:=lh9 hst
   have HSZ:=lh9 hsz
   have HTK:=lh9 htk
   obtain⟨s1,e1⟩:∃s1,(a+b+cc)%18446744073709551616=s1:=⟨_,rfl⟩
   obtain⟨s2,e2⟩:∃s2,(a+b+cc) / 18446744073709551616=s2:=⟨_,rfl⟩
   rw [e1,e2] at WA HST
   have HWA:=lh9 WA
   obtain⟨u,hu⟩:∃u,cs[k]?=some u:=⟨cs[k]'(by omega),Array.getElem?_eq_getElem (by omega)⟩
   have HU:=lh9 hu
   clear WA hst ha hb e1 e2 hat htk hu hsz
   have i1:(0:Int)<=(k:Int):=by omega
   have i2:(k:Int)<(N:Int)+1:=by omega
   go_wp2_with fail
   have hb0:=hB.drew
   have hk0:=hkr.drew
   have hc0:=hcs.drew
   go_region_held3 (λw'=>Below w.heap.size w w'/\w'.cell? ⟨w.heap.size,0,none⟩=some (.slice A n c)/\w'.cell? ⟨w.heap.size+1,0,none⟩=some (.slice D m d)/\Blk w' (w.heap.size+1+1) 44 #[.slice none 0 0])
   (first | (exact ⟨hb0,g1,g2,hk0⟩) | (go_split_ands; (repeat' apply And.intro); all_goals (first | with_reducible assumption | exact zac (by with_reducible assumption) hb | exact zae hb (by with_reducible assumption) | exact zad hb (by with_reducible assumption) | exact zal _ (by with_reducible assumption) | exact zam _ (by with_reducible assumption) | exact Blk.alloc (by with_reducible assumption) _ | exact zaf _ (by simp; omega) (by with_reducible assumption) | exact zah _ (by simp; omega) (by with_reducible assumption) | exact Blk.far (by with_reducible assumption) (by simp; omega) _)))
     (first
       |(go_at_call 170;with_reducible refine(WX.out _ (by first|with_reducible assumption|exact And.left (by with_reducible assumption))).mono ?_;rintro e w' ⟨rfl,hb⟩;have hk2:Blk w' gs 121 cs:=zad hb (by with_reducible assumption);have q1:=(hk2.cell k).trans HU.out;have q2:=hk2.frozen k)
       |(go_at_call 170;with_reducible refine(WY.out _ (by first|with_reducible assumption|exact And.left (by with_reducible assumption))).mono ?_;rintro e w' ⟨rfl,hb⟩;have hk2:Blk w' gs 121 cs:=zad hb (by with_reducible assumption);have q1:=(hk2.cell k).trans HU.out;have q2:=hk2.frozen k)
       |(go_at_call 183;with_reducible refine(HWA.out _).mono ?_;rintro e w'' ⟨rfl,rfl⟩))
   rename_i hH
   obtain⟨hB2,g3,g4,hk3⟩:=hH
   have hk4:=hk2.set_ k (.int .u64 s1)
   clear hb hk2 q1 q2 hb0 hk0 hc0 hB g1 g2 hkr hcs
   go_wp2
   go_roundg (N+1 - k)
   case measure=>omega
   case rel=>exact⟨k+1,s2,_,_,by omega,by omega,by go_num,rfl,HST.out,by simpa using HSZ.out,by rw [ziW _ _ _ (by have:=HSZ.out;omega),HTK.out,zex],hk4,hB2,g3,g4,hk3⟩
  ·have hkN:k=N+1:=by omega
   subst hkN
   have e:=hat.done (by have:=hln.out;omega) (by have:=hlm.out;omega)
   have hol:out.length=N+1:=hat.len
   have T:=zfk (some ⟨gs,0,none⟩) (N+1) (N+1) wr.heap.size out wr (zdg hcs hsz htk hol) hat.dgs (Nat.le_refl _) (by omega) (by omega)
   rw [e] at T
   have HT:=lh9 T
   have hc1:wr.cell? ⟨w.heap.size+1+1,0,none⟩=some (.slice none 0 0):=hkr.cell 0
   have hf1:=hkr.frozen 0
   clear T hcs hsz htk hat e hol hkr g1 g2
   go_wp2_with fail
   refine HT.out.mono ?_
   rintro e w2 ⟨A1,c1,rfl,hr1,h1,h2,hA1,rfl⟩
   have G:=zfH hB (p:=w.heap.size+1+1) (gs:=gs) (by omega) (by omega) hr1 h1 h2 hA1 (by omega) (.slice A1 (dg 18446744073709551616 (x+y)).length c1)
   have HG:Hid (zaK w (x+y) (.returned (.agg #[.slice A1 (dg 18446744073709551616 (x+y)).length c1])) (wr.setCell ⟨w.heap.size+1+1,0,none⟩ (.slice A1 (dg 18446744073709551616 (x+y)).length c1))):=⟨_,_,_,rfl,G.2.1,G.1,G.2.2⟩
   clear G hr1 h1 h2 hA1
   obtain⟨L,hL⟩:∃L,(dg 18446744073709551616 (x+y)).length=L:=⟨_,rfl⟩
   rw [hL] at HG⊢
   clear hL
   go_wp2
   refine bodyPost_ret (v:=.agg #[.slice A1 L c1]) (by simp [results,Tryz.results171,go_sem,hc1]) rfl ?_
   exact HG.out
theorem znm (x y:Nat)(A D:oA9)(n m c d:Nat)(w:World)(hA:zag w x A n c)(hD:zag w y D m d)(hn:n<=549755813888)(hm:m<=549755813888)(hlt:x<y):
  Calls Tryz.prog 172 #[.agg #[.slice A n c],.agg #[.slice D m d]] w (zfx w 0 false):=by
 have CC:=lh9 (λw' (hb:Below w.heap.size w w')=>zeL x y A D n m c d w' (hA.below hb) (hD.below hb) (by omega) (by omega))
 rw [zcj hlt] at CC
 clear hA hD hlt
 go_enter Tryz.func172,Tryz.ntmps172
 go_wp2_with fail
 generalize hW:((w.alloc (.cells #[.slice A n c] 44)).alloc (.cells #[.slice D m d] 44)).alloc (.cells #[.slice none 0 0] 44)=W0
 obtain⟨b1,b2,b3,b4,b5⟩:=zbm w 44 44 44 #[.slice A n c] #[.slice D m d] #[.slice none 0 0]
 rw [hW] at b1 b2 b3 b4 b5
 clear hW b2 b3
 refine(CC.out _ b1).mono ?_
 rintro e w1 ⟨rfl,hb⟩
 have hB:=zac b1 hb
 have hk:=zad hb b4
 have hc1:w1.cell? ⟨w.heap.size+1+1,0,none⟩=some (.slice none 0 0):=hk.cell 0
 have hf1:=hk.frozen 0
 have HG:Hid (zfx w 0 false (.returned (.tuple #[.agg #[.slice none 0 0],.bool false])) (w1.setCell ⟨w.heap.size+1+1,0,none⟩ (.slice none 0 0))):=⟨_,_,_,rfl,zgg _,zaf _ (by show _<=w.heap.size+1+1;omega) hB,zek.none_ _⟩
 clear hB hk hb b1 b4
 go_wp2
 refine bodyPost_ret (v:=.tuple #[.agg #[.slice none 0 0],.bool false]) (by simp [results,Tryz.results172,go_sem,hc1]) rfl ?_
 exact HG.out
theorem zor (x y:Nat)(A D:oA9)(n m c d:Nat)(w:World)(hA:zag w x A n c)(hD:zag w y D m d)(hn:n<=549755813888)(hm:m<=549755813888)(hle:y<=x):
  Calls Tryz.prog 172 #[.agg #[.slice A n c],.agg #[.slice D m d]] w (zfx w (x - y) true):=by
 obtain⟨i0,hi0,hz0,hz1,hz2⟩:=info_parts zfi
 have hln:=lh9 hA.len
 have HA:=lh9 (λw' (hb:Below w.heap.size w w')=>hA.below hb)
 have HD:=lh9 (λw' (hb:Below w.heap.size w w')=>hD.below hb)
 have HLE:=lh9 hle
 have hz0':=zkq hle
 have CC:=(λw' (hb:Below w.heap.size w w')=>zeL x y A D n m c d w' (hA.below hb) (hD.below hb) (by omega) (by omega))
 obtain⟨z,hz⟩:∃z,zbi x y=z:=⟨_,rfl⟩
 rw [hz] at CC hz0'
 have HC:=lh9 CC
 have hzl:¬ z<0:=by omega
 have hzd:decide (z<0)=false:=by simpa using hz0'
 obtain⟨Z,hZ⟩:∃Z,madeCells (Value.cells (.int .u64 0)) (n*i0.size)=Z:=⟨_,rfl⟩
 have HZ:Hid (Z.size=n):=by show _=_;rw [<-hZ,size_madeCells,hz1,Nat.mul_one]
 have hmk:∀W:World,(Instr.makeSlice 42 (.int .i64 (n:Int)) (.int .i64 (n:Int))).run Tryz.prog W=.ok (.slice (some ⟨W.heap.size,0,none⟩) n n) (W.alloc (.cells Z 121)):=λW=>by
  rw [<-hZ];exact zaT _ _ i0 _ Tryz.underlying42 hi0 hz0 _ _ n n (Nat.le_refl _) (by rw [hz2];omega) (by omega) W
 clear hZ hA hD hle CC hz
 go_enter Tryz.func172,Tryz.ntmps172
 go_wp2_with fail
 generalize hW:((w.alloc (.cells #[.slice A n c] 44)).alloc (.cells #[.slice D m d] 44)).alloc (.cells #[.slice none 0 0] 44)=W0
 obtain⟨b1,b2,b3,b4,b5⟩:=zbm w 44 44 44 #[.slice A n c] #[.slice D m d] #[.slice none 0 0]
 rw [hW] at b1 b2 b3 b4 b5
 have g1:W0.cell? ⟨w.heap.size,0,none⟩=some (.slice A n c):=b2.cell 0
 have g2:W0.cell? ⟨w.heap.size+1,0,none⟩=some (.slice D m d):=b3.cell 0
 clear hW b2 b3
 refine(HC.out _ b1).mono ?_
 rintro e w1 ⟨rfl,hb⟩
 have hB:=zac b1 hb
 have hk:=zad hb b4
 have g3:=zae hb g1
 have g4:=zae hb g2
 have hs1:=hb.size
 clear hb g1 g2 b1 b4
 go_wp2_with fail
 refine(zby x _ _ _ _).mono ?_
 rintro e w2 ⟨rfl,hb⟩
 have hB:=zac hB hb
 have hk:=zad hb hk
 have g1:=zae hb g3
 have g2:=zae hb g4
 have hs2:=hb.size
 have hgs:w.heap.size+3<=w2.heap.size:=by omega
 clear hb g3 g4 hs1 hs2 b5
 go_wp2_with fail
 have hZ0:=Blk.new w2 121 Z
 have hB:=zal (.cells Z 121) hB
 have hk:=hk.alloc (.cells Z 121)
 have g1:=zam (.cells Z 121) g1
 have g2:=zam (.cells Z 121) g2
 generalize w2.alloc (.cells Z 121)=W1 at*
 generalize w2.heap.size=gs at*
 clear hmk
 go_loopg [7,8,19] (n + 1) (fun g v _ i wr => ∃ (k cc : Nat) (cs : Array Value) (out : List Nat),k ≤ n ∧ n < g + k ∧ i = .int .i64 k ∧ v = .int .u64 cc ∧ SubB x y k out cc ∧ cs.size = n ∧ cs.toList.take k = zaw .u64 out ∧ Blk wr gs 121 cs ∧
   Below w.heap.size w wr/\wr.cell? ⟨w.heap.size,0,none⟩=some (.slice A n c)/\wr.cell? ⟨w.heap.size+1,0,none⟩=some (.slice D m d)/\Blk wr (w.heap.size+1+1) 44 #[.slice none 0 0])
 case atStart=>exact⟨0,0,Z,[],by omega,by omega,rfl,rfl,SubB.start x y,HZ.out,rfl,hZ0,hB,g1,g2,hk⟩
 case round=>
  clear hB g1 g2 hk hZ0
  obtain⟨k,cc,cs,out,hk,hg,rfl,rfl,hat,hsz,htk,hcs,hB,g1,g2,hkr⟩:=hrel
  have hcc:=hat.lack
  by_cases hlt:k<n
  ·have hst:=λd c'=>hat.step (d:=d) (c':=c')
   have ha1:=zcd x k
   have ha2:=zcd y k
   have hWA:=(HA.out wr hB).1
   obtain⟨ad,rfl,hadb,hx⟩:=zbr hWA hlt
   have hadw:ad.block<w.heap.size:=by
    obtain⟨ad',e,hb',_⟩:=(HA.out w (Below.refl _ _)).1.2 (by omega)
    cases e
    exact hb'
   rw [zei] at hx
   have WY:=lh9 (λw' (h:Below w.heap.size w w')=>zdu y D m d k w' (HD.out w' h))
   obtain⟨a,ha⟩:∃a,wd x k=a:=⟨_,rfl⟩
   obtain⟨b,hb⟩:∃a,wd y k=a:=⟨_,rfl⟩
   rw [ha] at hx ha1 hst
   rw [hb] at WY ha2 hst
   obtain⟨s1,s2,e1,e2,e3,e4,e5⟩:=zkV ha1 ha2 hcc
   have WA:∀w',Calls Tryz.prog 184 #[.int .u64 a,.int .u64 b,.int .u64 cc] w' λe w''=>e=.returned (.tuple #[.int .u64 (s1:Int),.int .u64 (s2:Int)])/\w'=w'':=λw'=>by
    rw [<-e1,<-e2]
    exact zmA a b cc ⟨by omega,by omega⟩ ⟨by omega,by omega⟩ ⟨by omega,by omega⟩ w'
   have HST:=lh9 (hst s1 s2 e3 e4 e5)
   have HSZ:=lh9 hsz
   have HTK:=lh9 htk
   have HWA:=lh9 WA
   obtain⟨u,hu⟩:∃u,cs[k]?=some u:=⟨cs[k]'(by omega),Array.getElem?_eq_getElem (by omega)⟩
   have HU:=lh9 hu
   clear WA hst ha hb e1 e2 e3 e4 e5 hat htk hu hsz hWA hadb
   have i1:(0:Int)<=(k:Int):=by omega
   have i2:(k:Int)<(n:Int):=by omega
   go_wp2_with fail
   have hb0:=hB.drew
   have hk0:=hkr.drew
   have hc0:=hcs.drew
   have hx0:wr.drew.cell? (ad.add k)=some (.int .u64 a):=hx
   go_region_held3 (fun w' => Below w.heap.size w w' ∧ w'.cell? ⟨w.heap.size,0,none⟩ = some (.slice (some ad) n c) ∧ w'.cell? ⟨w.heap.size + 1,0,none⟩ = some (.slice D m d) ∧ Blk w' (w.heap.size + 1 + 1) 44 #[.slice none 0 0] ∧ w'.cell? (ad.add k) = some (.int .u64 a))
    (first|(exact⟨hb0,g1,g2,hk0,hx0⟩)|(go_split_ands;(repeat' apply And.intro);all_goals (first|with_reducible assumption|exact zac (by with_reducible assumption) hb|exact zae hb (by with_reducible assumption)|exact zad hb (by with_reducible assumption)|exact zal _ (by with_reducible assumption)|exact zam _ (by with_reducible assumption)|exact Blk.alloc (by with_reducible assumption) _|exact zaf _ (by simp;omega) (by with_reducible assumption)|exact zah _ (by simp;omega) (by with_reducible assumption)|exact zah _ (by rw [zap];simp;omega) (by with_reducible assumption)|exact Blk.far (by with_reducible assumption) (by simp;omega) _)))
    (first
      |(go_at_call 170;with_reducible refine(WY.out _ (by first|with_reducible assumption|exact And.left (by with_reducible assumption))).mono ?_;rintro e w' ⟨rfl,hb⟩;have hk2:Blk w' gs 121 cs:=zad hb (by with_reducible assumption);have q1:=(hk2.cell k).trans HU.out;have q2:=hk2.frozen k)
      |(go_at_call 184;with_reducible refine(HWA.out _).mono ?_;rintro e w'' ⟨rfl,rfl⟩))
   rename_i hH
   obtain⟨hB2,g3,g4,hk3,_⟩:=hH
   have hk4:=hk2.set_ k (.int .u64 s1)
   clear hb hk2 q1 q2 hb0 hk0 hc0 hB g1 g2 hkr hcs hx hx0
   go_wp2
   go_roundg (n - k)
   case measure=>omega
   case rel=>exact⟨k+1,s2,_,_,by omega,by omega,by go_num,rfl,HST.out,by simpa using HSZ.out,by rw [ziW _ _ _ (by have:=HSZ.out;omega),HTK.out,zex],hk4,hB2,g3,g4,hk3⟩
  ·have hkN:k=n:=by omega
   subst hkN
   have e:=hat.done HLE.out (by have:=hln.out;omega)
   have hol:out.length=k:=hat.len
   have T:=zfk (some ⟨gs,0,none⟩) k k wr.heap.size out wr (zdg hcs hsz htk hol) hat.dgs (Nat.le_refl _) (by omega) (by omega)
   rw [e] at T
   have HT:=lh9 T
   have hc1:wr.cell? ⟨w.heap.size+1+1,0,none⟩=some (.slice none 0 0):=hkr.cell 0
   have hf1:=hkr.frozen 0
   clear T hcs hsz htk hat e hol hkr g1 g2
   go_wp2_with fail
   refine HT.out.mono ?_
   rintro e w2 ⟨A1,c1,rfl,hr1,h1,h2,hA1,rfl⟩
   have G:=zfH hB (p:=w.heap.size+1+1) (gs:=gs) (by omega) (by omega) hr1 h1 h2 hA1 (by omega) (.slice A1 (dg 18446744073709551616 (x - y)).length c1)
   have HG:Hid (zfx w (x - y) true (.returned (.tuple #[.agg #[.slice A1 (dg 18446744073709551616 (x - y)).length c1],.bool true])) (wr.setCell ⟨w.heap.size+1+1,0,none⟩ (.slice A1 (dg 18446744073709551616 (x - y)).length c1))):=⟨_,_,_,rfl,G.2.1,G.1,G.2.2⟩
   clear G hr1 h1 h2 hA1
   obtain⟨L,hL⟩:∃L,(dg 18446744073709551616 (x - y)).length=L:=⟨_,rfl⟩
   rw [hL] at HG⊢
   clear hL
   go_wp2
   refine bodyPost_ret (v:=.tuple #[.agg #[.slice A1 L c1],.bool true]) (by simp [results,Tryz.results172,go_sem,hc1]) rfl ?_
   exact HG.out
