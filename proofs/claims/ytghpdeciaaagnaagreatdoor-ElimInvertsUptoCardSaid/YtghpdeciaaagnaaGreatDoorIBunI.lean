/- What this claim leans on. -/
import Derived.Test.YtghpdeciaaagnaaGreatDoorIBunG
import Derived.Test.YtghpdeciaaagnaaGreatDoorIBunH
namespace Go.Proofs.YtghpdeciaaagnaaGreatDoor
open Go Go.RowKit
set_option maxHeartbeats 16000000
set_option maxRecDepth 100000
set_option linter.unusedVariables false
theorem zaq.shrink {w:World}{t:TypeId}{g cap n s:Nat}{L:List Nat}(h:zaq w t g cap n L)(hs:s<=n):zaq w t g cap s (L.take s):=by
 obtain⟨cur,h0,h1,h2,h3,h4,h5⟩:=h
 refine⟨cur,h0,by omega,h2,h3,by rw [List.length_take];omega,?_⟩
 have e:=congrArg (List.take s) h5
 rw [List.take_take,Nat.min_eq_left hs] at e
 rw [e]
 unfold zaA
 rw [List.map_take]
theorem ziM {w w':World}{g b cap n:Nat}{t:TypeId}{L:List Nat}(h:Off g w w')(hr:zaq w t b cap n L)(hne:b≠g):zaq w' t b cap n L:=by
 obtain⟨cur,h0,h1⟩:=hr
 exact⟨cur,h.blk h0 hne,h1⟩
theorem zkX {L:List Nat}(h:L.length=1):L.getD 0 0=dv 18446744073709551616 L:=by
 match L,h with
 |[a],_=>simp [dv]
theorem zpK (w:World)(t:TypeId)(x:Nat):zaq (w.alloc (.cells #[.int .u64 (x:Int)] t)) t w.heap.size 1 1 [x]:=
 ⟨_,Blk.new w t _,Nat.le_refl _,by unfold maxLen;omega,rfl,rfl,rfl⟩
theorem zkF {X Y G:Nat}(h0:X - Y≠0)(hle:Y<=X)(hG:Nat.gcd X Y=G)(hY:Y%2=1):
  (X - Y) / 2^zbO (X - Y)%2=1/\Nat.gcd ((X - Y) / 2^zbO (X - Y)) Y=G/\(X - Y) / 2^zbO (X - Y)<=X - Y/\(X - Y) / 2^zbO (X - Y)+Y<X+Y:=by
 rcases tw_N (X - Y) with⟨h,_⟩|⟨m,hm⟩
 ·exact absurd h h0
 ·have h1:=zml hm
  have h3:(X - Y) / 2^zbO (X - Y)<=X - Y:=Nat.div_le_self _ _
  have h2:∀t x:Nat,x=2^t*(2*m+1)->Nat.gcd (x / 2^t) Y=Nat.gcd x Y:=λt=>by
   induction t with
   |zero=>intro x _;rw [Nat.pow_zero,Nat.div_one]
   |succ t ih=>
     intro x hx
     have e:x / 2=2^t*(2*m+1):=by rw [hx,Nat.pow_succ,Nat.mul_comm (2^t) 2,Nat.mul_assoc,Nat.mul_div_cancel_left _ (by decide)]
     rw [Nat.pow_succ,Nat.mul_comm (2^t) 2,<-Nat.div_div_eq_div_mul,ih _ e]
     exact zgJ (by rw [hx,Nat.pow_succ,Nat.mul_comm (2^t) 2,Nat.mul_assoc];exact Nat.mul_mod_right _ _) (by omega)
  refine⟨h1,?_,h3,by omega⟩
  rw [h2 _ _ hm,gcd_take hle]
  exact hG
def ziE (w0:World)(G:Nat)(e:Ending)(w':World):Prop:=
 ∃(A:oA9) (m c:Nat) (L:List Nat),e=.returned (.slice A m c)/\zas w' w'.heap.size 1 A m (zaA .u64 L)/\Dgs 18446744073709551616 L/\dv 18446744073709551616 L=G/\m<=c/\c<=maxLen/\m<=1099511627776/\Below w0.heap.size w0 w'
structure DiffI (w0 wr:World)(n G S:Nat)(tya tyb:TypeId)(ga gb ca cb s:Nat)(La Lb:List Nat):Prop where
 ra:zaq wr tya ga ca s La
 rb:zaq wr tyb gb cb s Lb
 ne:ga≠gb
 ha:w0.heap.size<=ga
 hb:w0.heap.size<=gb
 da:Dgs 18446744073709551616 La
 db:Dgs 18446744073709551616 Lb
 oa:dv 18446744073709551616 La%2=1
 ob:dv 18446744073709551616 Lb%2=1
 gcd:Nat.gcd (dv 18446744073709551616 La) (dv 18446744073709551616 Lb)=G
 sum:dv 18446744073709551616 La+dv 18446744073709551616 Lb=S
 le:s<=n
 below:Below w0.heap.size w0 wr
theorem gcd_diff (w0:World)(tya tyb:TypeId)(ga gb ca cb n G:Nat)(La Lb:List Nat)(w:World)(hI:DiffI w0 w n G (dv 18446744073709551616 La+dv 18446744073709551616 Lb) tya tyb ga gb ca cb n La Lb)(hn:n<=1099511627776)(hT:zai w0):
  Calls Tryz.prog 212 #[.slice (some ⟨ga,0,none⟩) n ca,.slice (some ⟨gb,0,none⟩) n cb] w (ziE w0 G):=by
 have HT:=lh9 hT
 have HI:=lh9 hI
 clear hI hT
 go_enter Tryz.func212,Tryz.ntmps212
 go_wp2_with fail
 go_loopg [0,1] (dv 18446744073709551616 La+dv 18446744073709551616 Lb+1) (λgg u0 u1 wr=>∃(tya tyb:TypeId) (ga gb ca cb s S:Nat) (La Lb:List Nat),u0=.slice (some ⟨ga,0,none⟩) s ca/\u1=.slice (some ⟨gb,0,none⟩) s cb/\DiffI w0 wr n G S tya tyb ga gb ca cb s La Lb/\S<gg)
 case atStart=>exact⟨_,_,_,_,_,_,_,_,_,_,rfl,rfl,HI.out,by omega⟩
 case round=>
  clear HI
  obtain⟨tya,tyb,ga,gb,ca,cb,s0,S,La0,Lb0,rfl,rfl,⟨ra,rb,hne,hga,hgb,da0,db0,oa,ob,hG,hS,hsn0,hB⟩,hgg⟩:=hrel
  have SH:=lh9 (zmO tya tyb ga gb ca cb s0 La0 Lb0 wr ra rb da0 db0 (by omega) (by omega))
  have HRA:=lh9 ra
  have HRB:=lh9 rb
  have HB:=lh9 hB
  clear ra rb hB
  go_wp2_with fail
  refine SH.out.mono ?_
  rintro e w2 ⟨s,hs1,hss,rfl,ea,eb,hb⟩
  have ra:=(HRA.out.keep hb).shrink hss
  have rb:=(HRB.out.keep hb).shrink hss
  have hB:=zab HB.out hb
  have da:=da0.take s
  have db:=db0.take s
  obtain⟨La,hLa⟩:∃L,La0.take s=L:=⟨_,rfl⟩
  obtain⟨Lb,hLb⟩:∃L,Lb0.take s=L:=⟨_,rfl⟩
  rw [hLa] at ra da ea
  rw [hLb] at rb db eb
  obtain⟨Xa,hXa⟩:∃X,dv 18446744073709551616 La0=X:=⟨_,rfl⟩
  obtain⟨Xb,hXb⟩:∃X,dv 18446744073709551616 Lb0=X:=⟨_,rfl⟩
  rw [hXa] at ea oa hG hS
  rw [hXb] at eb ob hG hS
  have hsn:s<=n:=by omega
  have hs:s<=1099511627776:=by omega
  have HG:=lh9 hG
  have HOa:=lh9 oa
  have HOb:=lh9 ob
  clear hLa hLb hXa hXb SH HRA HRB HB hb da0 db0 hG
  by_cases h1:s=1
  ·subst h1
   have k1:=ra.cell 0 (by omega)
   have k2:=rb.cell 0 (by omega)
   rw [zkX ra.len,ea] at k1
   rw [zkX rb.len,eb] at k2
   have l1:=zcL da
   have l2:=zcL db
   rw [ra.len,ea] at l1
   rw [rb.len,eb] at l2
   have W:=λw'=>zkK Xa Xb w' (by simpa using l1) (by simpa using l2)
   rw [HG.out] at W
   have HL1:=lh9 (show Xa<18446744073709551616 by simpa using l1)
   have HW:=lh9 W
   have hB0:=hB.drew
   have k1d:w2.drew.cell? ⟨ga,0,none⟩=some (.int .u64 (Xa:Int)):=k1
   have k2d:w2.drew.cell? ⟨gb,0,none⟩=some (.int .u64 (Xb:Int)):=k2
   clear W ra rb l1 l2 oa ob hB ea eb hS
   go_wp2_with fail
   go_region_held3 (fun w' => w'.cell? ⟨ga,0,none⟩ = some (.int .u64 (Xa : Int)) ∧ w'.cell? ⟨gb,0,none⟩ = some (.int .u64 (Xb : Int)) ∧ Below w0.heap.size w0 w')
    (first|(exact⟨k1d,k2d,hB0⟩)|(go_split_ands;(repeat' apply And.intro);all_goals (first|with_reducible assumption|exact zab (by with_reducible assumption) hb|exact zac hb (by with_reducible assumption)|with_reducible exact zaj _ (by with_reducible assumption)|with_reducible exact zal _ (by with_reducible assumption))))
    (first|(go_at_call 195;(with_reducible refine(HW.out _).mono ?_);rintro e w' ⟨rfl,hb⟩))
   rename_i hH
   have HE:Hid (∀w':World,Below w0.heap.size w0 (w'.alloc (.cells #[.int .u64 (G:Int)] 160))->ziE w0 G (.returned (.slice (some ⟨w'.heap.size,0,none⟩) 1 1)) (w'.alloc (.cells #[.int .u64 (G:Int)] 160))):=λw' h=>by
    have hG1:G<18446744073709551616:=by
     have e:=HG.out
     have:=Nat.gcd_le_left Xb (show 0<Xa by have:=HOa.out;omega)
     have l:Xa<18446744073709551616:=HL1.out
     omega
    exact⟨_,_,_,[G],rfl,(zpK w' _ G).reads,by intro d hd;simp at hd;omega,by simp [dv],Nat.le_refl _,by unfold maxLen;omega,by omega,h⟩
   go_wp2
   go_ret
   exact HE.out _ hH.2.2
  ·have hs1':((s:Int)==1)=false:=beq_eq_false_iff_ne.2 (by omega)
   have BL:=zqs tya tyb ga gb ca cb s La Lb w2 ra rb da db hs
   rw [ea,eb] at BL
   have HRA:=lh9 ra
   have HRB:=lh9 rb
   have HB:=lh9 hB
   have HBL:=lh9 BL
   have hsz2:=hB.size
   clear ra rb hB BL
   go_wp2_with fail
   refine HBL.out.mono ?_
   rintro e w2' ⟨rfl,hb⟩
   have ra:=HRA.out.keep hb
   have rb:=HRB.out.keep hb
   have hB:=zab HB.out hb
   clear HRA HRB HB HBL hb hsz2
   obtain⟨w2,hw2⟩:∃x,x=w2':=⟨_,rfl⟩
   subst hw2
   have hgaba:=hne
   have hgabb:=hne.symm
   have HGa:=HG
   have HGb:Hid (Nat.gcd Xb Xa=G):=by show _=_;rw [Nat.gcd_comm];exact HG.out
   by_cases hlt:Xa<Xb
   ·have hd:decide (Xa<Xb)=true:=by simpa using hlt
    have hle:Xa<=Xb:=by omega
    have HG:=HGb
    have SUB:=lh9 (zhk tyb tya gb ga cb ca s Lb La w2 rb ra (by omega) db da (by rw [eb,ea];omega) hs)
    have HRB:=lh9 ra
    have HB2:=lh9 hB
    have hsz2:=hB.size
    clear rb ra hB
    go_wp2_with fail
    refine SUB.out.mono ?_
    rintro e w3 ⟨v3,L3,rfl,r3,d3,e3,o3⟩
    have ra:=ziM o3 HRB.out (by omega)
    have hB:=o3.below HB2.out hsz2 (by omega)
    have hT3:=HT.out.on hB
    rw [eb,ea] at e3
    have DR:=zmN tyb gb cb s L3 w3 r3 d3 hs hT3
    rw [e3] at DR
    have DRH:=lh9 DR
    have HRB:=lh9 ra
    have HB2:=lh9 hB
    have hsz3:=hB.size
    clear r3 ra hB o3 hT3 DR SUB
    go_wp2_with fail
    refine DRH.out.mono ?_
    rintro e w4 (⟨h0,rfl,rfl⟩|⟨h0,L4,rfl,r4,d4,e4,o4⟩)
    ·have hG:Hid (Xa=G):=by
      have h:=HG.out
      rw [show Xb=Xa from by omega,Nat.gcd_self] at h
      exact h
     have HE:Hid (ziE w0 G (.returned (.slice (some ⟨ga,0,none⟩) s ca)) w3):=⟨_,_,_,La,rfl,HRB.out.reads,da,by rw [ea];exact hG.out,HRB.out.room.1,HRB.out.room.2,by omega,HB2.out⟩
     clear DRH hG HRB HB2
     go_wp2
     go_ret
     exact HE.out
    ·have ra:=ziM o4 HRB.out (by omega)
     have hB:=o4.below HB2.out hsz3 (by omega)
     have hD:=zkF h0 hle HGb.out HOa.out
     rw [<-e4] at hD
     obtain⟨g1,g2,g3,g4⟩:=hD
     have HE:Hid (DiffI w0 w4 n G (dv 18446744073709551616 L4+Xa) tyb tya gb ga cb ca s L4 La):=⟨r4,ra,hgabb,hgb,hga,d4,da,g1,by rw [ea];exact HOa.out,by rw [ea];exact g2,by rw [ea],hsn,hB⟩
     clear DRH r4 ra hB o4 e4 HRB HB2 d4
     go_wp2
     go_roundg (dv 18446744073709551616 L4+Xa+1)
     case measure=>omega
     case rel=>exact⟨_,_,_,_,_,_,_,_,_,_,rfl,rfl,HE.out,by omega⟩
   ·have hd:decide (Xa<Xb)=false:=by simpa using hlt
    have hle:Xb<=Xa:=by omega
    have SUB:=lh9 (zhk tya tyb ga gb ca cb s La Lb w2 ra rb (by omega) da db (by rw [ea,eb];omega) hs)
    have HRB:=lh9 rb
    have HB2:=lh9 hB
    have hsz2:=hB.size
    clear ra rb hB
    go_wp2_with fail
    refine SUB.out.mono ?_
    rintro e w3 ⟨v3,L3,rfl,r3,d3,e3,o3⟩
    have rb:=ziM o3 HRB.out (by omega)
    have hB:=o3.below HB2.out hsz2 (by omega)
    have hT3:=HT.out.on hB
    rw [ea,eb] at e3
    have DR:=zmN tya ga ca s L3 w3 r3 d3 hs hT3
    rw [e3] at DR
    have DRH:=lh9 DR
    have HRB:=lh9 rb
    have HB2:=lh9 hB
    have hsz3:=hB.size
    clear r3 rb hB o3 hT3 DR SUB
    go_wp2_with fail
    refine DRH.out.mono ?_
    rintro e w4 (⟨h0,rfl,rfl⟩|⟨h0,L4,rfl,r4,d4,e4,o4⟩)
    ·have hG:Hid (Xb=G):=by
      have h:=HG.out
      rw [show Xa=Xb from by omega,Nat.gcd_self] at h
      exact h
     have HE:Hid (ziE w0 G (.returned (.slice (some ⟨gb,0,none⟩) s cb)) w3):=⟨_,_,_,Lb,rfl,HRB.out.reads,db,by rw [eb];exact hG.out,HRB.out.room.1,HRB.out.room.2,by omega,HB2.out⟩
     clear DRH hG HRB HB2
     go_wp2
     go_ret
     exact HE.out
    ·have rb:=ziM o4 HRB.out (by omega)
     have hB:=o4.below HB2.out hsz3 (by omega)
     have hD:=zkF h0 hle HGa.out HOb.out
     rw [<-e4] at hD
     obtain⟨g1,g2,g3,g4⟩:=hD
     have HE:Hid (DiffI w0 w4 n G (dv 18446744073709551616 L4+Xb) tya tyb ga gb ca cb s L4 Lb):=⟨r4,rb,hgaba,hga,hgb,d4,db,g1,by rw [eb];exact HOb.out,by rw [eb];exact g2,by rw [eb],hsn,hB⟩
     clear DRH r4 rb hB o4 e4 HRB HB2 d4
     go_wp2
     go_roundg (dv 18446744073709551616 L4+Xb+1)
     case measure=>omega
     case rel=>exact⟨_,_,_,_,_,_,_,_,_,_,rfl,rfl,HE.out,by omega⟩
def zdL (x:Nat):Nat:=x / 2^zbO x
theorem zek (x:Nat)(A:oA9)(n c:Nat)(w:World)(hA:zad w x A n c)(hn:n<=274877906944)(hT:zai w):
  Calls Tryz.prog 198 #[.agg #[.slice A n c]] w (zaO w (zdL x)):=by
 have HTW:=lh9 (λw' (hb:Below w.heap.size w w')=>zjI x A n c w' (hA.below hb) (by omega) (hT.on hb))
 have HSH:=lh9 (λw' (hb:Below w.heap.size w w')=>show Calls _ _ _ _ (zaO w' (zdL x)) from zil x (zbO x) A n c w' (hA.below hb) (by omega))
 obtain⟨t,ht⟩:∃t,zbO x=t:=⟨_,rfl⟩
 obtain⟨y,hy⟩:∃t,zdL x=t:=⟨_,rfl⟩
 rw [ht] at HTW
 rw [ht,hy] at HSH
 rw [hy]
 clear hA hT ht hy
 go_enter Tryz.func198,Tryz.ntmps198
 go_wp2_with fail
 obtain⟨hB,b2,b3,b5⟩:=zbI w 37 37 #[.slice A n c] #[.slice none 0 0]
 generalize hW:(w.alloc (.cells #[.slice A n c] 37)).alloc (.cells #[.slice none 0 0] 37)=W0 at*
 have g1:W0.cell? ⟨w.heap.size,0,none⟩=some (.slice A n c):=b2.cell 0
 clear hW b2 b5
 have hb0:=hB.drew
 have g0:W0.drew.cell? ⟨w.heap.size,0,none⟩=some (.slice A n c):=g1
 have hk0:=b3.drew
 clear hB g1 b3
 go_region_held3 (fun w' => Below w.heap.size w w' ∧ w'.cell? ⟨w.heap.size,0,none⟩ = some (.slice A n c))
  (first|(exact⟨hb0,g0⟩)|(go_split_ands;(repeat' apply And.intro);all_goals (first|with_reducible assumption|exact zab (by with_reducible assumption) hb|exact zac hb (by with_reducible assumption)|exact zae _ (by show w.heap.size<=w.heap.size+1;omega) (by with_reducible assumption)|exact zag _ (by show w.heap.size≠w.heap.size+1;omega) (by with_reducible assumption))))
  (first
    |(go_at_call 199;(with_reducible refine(HTW.out _ (by first|with_reducible assumption|exact And.left (by with_reducible assumption))).mono ?_);rintro e w2 ⟨rfl,hb⟩;have hk2:=zaa hb hk0)
    |(go_at_call 213;(with_reducible refine(HSH.out _ (by first|with_reducible assumption|exact And.left (by with_reducible assumption))).mono ?_);rintro e w3 ⟨A2,n2,c2,rfl,hw,hb,hf⟩;go_split_ands;have hk3:=zaa hb hk2;have hc1:=hk3.cell 0;have hf1:=hk3.frozen 0;have hbb:Below w.heap.size w w3:=zab (by with_reducible assumption) hb))
 have hsz:=hbb.size
 have hz2:w.heap.size+1<w2.heap.size:=hk2.lt
 have p4:zcf w3 (w.heap.size+1) (.slice none 0 0):=⟨_,hk3⟩
 have r4:=(p4.set_ (.slice A2 n2 c2)).cell
 have HG : Hid (zaO w y (.returned (.agg #[.slice A2 n2 c2])) (w3.setCell ⟨w.heap.size + 1,0,none⟩ (.slice A2 n2 c2))) :=
  zhh hw hbb (by show _<=_;simp) (λad e=>by have:=hf ad e;show ad.block≠_;simp;omega) (λad e=>by have:=hf ad e;omega) _
 clear hw hf hk3 hk2 p4
 go_wp2
 refine bodyPost_ret (v:=.agg #[.slice A2 n2 c2]) (by simp [results,Tryz.results198,go_sem,r4]) rfl ?_
 exact HG.out
theorem odd_cop {m Y:Nat}(hY:Y%2=1):∀t x:Nat,x=2^t*(2*m+1)->Nat.gcd (x / 2^t) Y=Nat.gcd x Y:=λt=>by
 induction t with
 |zero=>intro x _;rw [Nat.pow_zero,Nat.div_one]
 |succ t ih=>
   intro x hx
   have e:x / 2=2^t*(2*m+1):=by rw [hx,Nat.pow_succ,Nat.mul_comm (2^t) 2,Nat.mul_assoc,Nat.mul_div_cancel_left _ (by decide)]
   rw [Nat.pow_succ,Nat.mul_comm (2^t) 2,<-Nat.div_div_eq_div_mul,ih _ e]
   exact zgJ (by rw [hx,Nat.pow_succ,Nat.mul_comm (2^t) 2,Nat.mul_assoc];exact Nat.mul_mod_right _ _) (by omega)
theorem zlR (x:Nat):zdL x<=x:=Nat.div_le_self _ _
theorem zfK {x:Nat}(h:x≠0):zdL x%2=1:=by
 rcases tw_N x with⟨e,_⟩|⟨m,hm⟩
 ·exact absurd e h
 ·exact zml hm
theorem oddN_gcd {x Y:Nat}(hY:Y%2=1):Nat.gcd (zdL x) Y=Nat.gcd x Y:=by
 rcases tw_N x with⟨e,_⟩|⟨m,hm⟩
 ·rw [e];show Nat.gcd (0 / _) Y=_;rw [Nat.zero_div]
 ·exact odd_cop hY _ _ hm
theorem zni {X Y G:Nat}(h0:X%Y≠0)(hG:Nat.gcd X Y=G)(hY:Y%2=1):zdL (X%Y)%2=1/\Nat.gcd (zdL (X%Y)) Y=G/\zdL (X%Y)<=X%Y:=by
 refine⟨zfK h0,?_,zlR _⟩
 rw [oddN_gcd hY,<-hG,Nat.gcd_comm X Y,Nat.gcd_rec Y X]
structure OddI (w wr:World)(p G S xa xb:Nat)(Aa Ab:oA9)(na ca nb cb:Nat):Prop where
 ka:zcf wr p (.slice Aa na ca)
 kb:zcf wr (p+1) (.slice Ab nb cb)
 kr:zcf wr (p+1+1) (.slice none 0 0)
 wa:zad wr xa Aa na ca
 wb:zad wr xb Ab nb cb
 oa:xa%2=1
 ob:xb%2=1
 gcd:Nat.gcd xa xb=G
 sum:xa+xb=S
 la:na<=1073741824
 lb:nb<=1073741824
 below:Below w.heap.size w wr
theorem gcd_odd (x y:Nat)(A D:oA9)(n m c d:Nat)(w:World)(hA:zad w x A n c)(hD:zad w y D m d)(hn:n<=1073741824)(hm:m<=1073741824)(hx:x%2=1)(hy:y%2=1)(hT:zai w):
  Calls Tryz.prog 197 #[.agg #[.slice A n c],.agg #[.slice D m d]] w (zdb w (Nat.gcd x y)):=by
 have HT:=lh9 hT
 have HA:=lh9 hA
 have HD:=lh9 hD
 obtain⟨G,hG⟩:∃g,Nat.gcd x y=g:=⟨_,rfl⟩
 rw [hG]
 have HG0:=lh9 hG
 clear hT hA hD hG
 go_enter Tryz.func197,Tryz.ntmps197
 go_wp2_with fail
 obtain⟨b1,b2,b3,b4,b5⟩:=zbL w 37 37 37 #[.slice A n c] #[.slice D m d] #[.slice none 0 0]
 generalize hW:((w.alloc (.cells #[.slice A n c] 37)).alloc (.cells #[.slice D m d] 37)).alloc (.cells #[.slice none 0 0] 37)=W0 at*
 obtain⟨p,hp⟩:∃p,w.heap.size=p:=⟨_,rfl⟩
 have hpw:w.heap.size<=p:=by omega
 have H0:Hid (OddI w W0 p G (x+y) x y A D n c m d):=⟨by rw [<-hp];exact b2.one,by rw [<-hp];exact b3.one,by rw [<-hp];exact b4.one,HA.out.below b1,HD.out.below b1,hx,hy,HG0.out,rfl,hn,hm,b1⟩
 rw [hp]
 clear hp hW b1 b2 b3 b4 b5 HA HD hx hy hn hm HG0
 go_loopg [5] (x+y+1) (λgg _ wr=>∃(S xa xb:Nat) (Aa Ab:oA9) (na ca nb cb:Nat),OddI w wr p G S xa xb Aa Ab na ca nb cb/\S<gg)
 case atStart=>exact⟨_,_,_,_,_,_,_,_,_,H0.out,by omega⟩
 case round=>
  clear H0
  obtain⟨S,xa,xb,Aa,Ab,na,ca,nb,cb,⟨k1,k2,k3,wa,wb,oa,ob,hG,hS,lna,lnb,hBW⟩,hgg⟩:=hrel
  have HG:=lh9 hG
  have HGa:=HG
  have HGb:Hid (Nat.gcd xb xa=G):=by show _=_;rw [Nat.gcd_comm];exact hG
  have HOa:=lh9 oa
  have HOb:=lh9 ob
  have LA:=lh9 (λw'=>zbQ xa Aa na ca w')
  have LB:=lh9 (λw'=>zbQ xb Ab nb cb w')
  have HK1:=lh9 k1
  have HK2:=lh9 k2
  have HK3:=lh9 k3
  have HBW:=lh9 hBW
  have HWA:=lh9 wa
  have HWB:=lh9 wb
  have c1:wr.drew.cell? ⟨p,0,none⟩=some (.slice Aa na ca):=k1.cell
  have c2:wr.drew.cell? ⟨p+1,0,none⟩=some (.slice Ab nb cb):=k2.cell
  have hbd:Below wr.heap.size wr wr.drew:=(Below.refl _ wr).drew
  clear k1 k2 k3 wa wb hBW oa ob hG
  go_wp2_with fail
  go_region_held3 (fun w' => w'.cell? ⟨p,0,none⟩ = some (.slice Aa na ca) ∧ w'.cell? ⟨p + 1,0,none⟩ = some (.slice Ab nb cb) ∧ Below wr.heap.size wr w')
   (first|(exact⟨c1,c2,hbd⟩)|(go_split_ands;(repeat' apply And.intro);all_goals (first|with_reducible assumption|exact zac hbx (by with_reducible assumption)|exact zab (by with_reducible assumption) hbx)))
   (first|(go_at_call 147;(first|(with_reducible refine(LA.out _).mono ?_)|(with_reducible refine(LB.out _).mono ?_));rintro e w2 ⟨rfl,hbx⟩))
  rename_i hH
  obtain⟨c1,c2,hbw⟩:=hH
  by_cases hl:na=nb
  ·subst hl
   have hne:((na:Int) !=(na:Int))=false:=by simp
   have WA:=lh9 (λw' (h:Below wr.heap.size wr w')=>zdy xa Aa na ca w' (HWA.out.below h) (by omega))
   have WB:=lh9 (λw' (h:Below wr.heap.size wr w')=>zdy xb Ab na cb w' (HWB.out.below h) (by omega))
   have hna:0<na:=by
    rcases Nat.eq_zero_or_pos na with e|e
    ·have h:=HWA.out.len
     rw [e] at h
     have h2:=zdz (b:=18446744073709551616) (by decide) xa
     rw [List.eq_nil_of_length_eq_zero h] at h2
     have:=HOa.out
     simp [dv] at h2
     omega
    ·exact e
   have hbe:=hbw.drew
   have c1:w2.drew.cell? ⟨p,0,none⟩=some (.slice Aa na ca):=c1
   have c2:w2.drew.cell? ⟨p+1,0,none⟩=some (.slice Ab na cb):=c2
   have c1r:=HK1.out.cell
   have c2r:=HK2.out.cell
   have HTR:=lh9 (HT.out.on HBW.out)
   have HKR:=lh9 HK3.out
   have f3:=HK3.out.frozen
   have lt3:=HK3.out.lt
   have HDI:=lh9 (fun(w5:World) (ga gb cga cgb:Nat) (ra:zaq w5 160 ga cga na (dg 18446744073709551616 xa)) (rb:zaq w5 160 gb cgb na (dg 18446744073709551616 xb)) (hne:ga≠gb) (h1:wr.heap.size<=ga) (h2:wr.heap.size<=gb) (hb:Below wr.heap.size wr w5)=>
    gcd_diff wr 160 160 ga gb cga cgb na G (dg 18446744073709551616 xa) (dg 18446744073709551616 xb) w5 ⟨ra,rb,hne,h1,h2,zcS (by decide) _,zcS (by decide) _,by rw [zdz (by decide)];exact HOa.out,by rw [zdz (by decide)];exact HOb.out,by rw [zdz (by decide),zdz (by decide)];exact HG.out,rfl,Nat.le_refl _,hb⟩ (by omega) HTR.out)
   have HNO:=lh9 (fun(w6:World) (A6:oA9) (m6 c6:Nat) (L6:List Nat) (h:zas w6 w6.heap.size 1 A6 m6 (zaA .u64 L6)) (hd:Dgs 18446744073709551616 L6) (hv:dv 18446744073709551616 L6=G) (h1:m6<=c6) (h2:c6<=maxLen) (h3:m6<=1099511627776)=>
    show Calls Tryz.prog 149 #[.slice A6 m6 c6] w6 (zaO w6 G) from hv▸zcT A6 m6 c6 L6 w6 h hd h1 (by unfold maxLen at h2;omega) h3)
   clear hbw hbx
   go_wp2_with fail
   go_region_held3 (fun w' => w'.cell? ⟨p,0,none⟩ = some (.slice Aa na ca) ∧ w'.cell? ⟨p + 1,0,none⟩ = some (.slice Ab na cb))
    (first|(exact⟨c1,c2⟩)|(go_split_ands;(repeat' apply And.intro);all_goals (first|with_reducible assumption|exact zac hbx (by with_reducible assumption)|exact zab (by with_reducible assumption) hbx|exact zae _ (by show wr.heap.size<=p+1+1;omega) (by with_reducible assumption)|exact zag _ (by show p≠p+1+1;omega) (by with_reducible assumption)|exact zag _ (by show p+1≠p+1+1;omega) (by with_reducible assumption))))
    (first
      |(go_at_call 146;(with_reducible refine(WA.out _ hbe).mono ?_);rintro e w4 ⟨v4,rfl,ho4,hbx⟩;have hb4:=zab hbe hbx;obtain⟨ga,cga,rfl,hga,ra⟩:=zaq.of_own ho4 hna)
      |(go_at_call 146;(with_reducible refine(WB.out _ hb4).mono ?_);rintro e w5 ⟨v5,rfl,ho5,hbx⟩;have hb5:=zab hb4 hbx;obtain⟨gb,cgb,rfl,hgb,rb⟩:=zaq.of_own ho5 hna;have ra5:=ra.keep hbx)
      |(go_at_call 212;(with_reducible refine(HDI.out w5 ga gb cga cgb ra5 rb (by have h1:=ra.lt;omega) (Nat.le_trans hbe.size hga) (by have h1:=ra.lt;have h2:=hbe.size;omega) hb5).mono ?_);rintro e w6 ⟨A6,m6,c6,L6,rfl,hr6,hd6,hv6,h61,h62,h63,hbx⟩;have hb6:=hbx)
      |(go_at_call 149;(with_reducible refine(HNO.out w6 A6 m6 c6 L6 hr6 hd6 hv6 h61 h62 h63).mono ?_);rintro e w7 ⟨A7,n7,c7,rfl,hw7,hbx,hf7⟩;have hb7:=zab hb6 hbx;have k7:=HKR.out.keep hb7;have f7:=k7.frozen;have e7:=k7.cell))
   have r7:=(k7.set_ (.slice A7 n7 c7)).cell
   have HE:Hid (zdb w G (.returned (.agg #[.slice A7 n7 c7])) (w7.setCell ⟨p+1+1,0,none⟩ (.slice A7 n7 c7))):=⟨_,_,_,rfl,zao hw7 k7 _,(zab HBW.out hb7).setCell (p:=⟨p+1+1,0,none⟩) (by show w.heap.size<=p+1+1;omega) _⟩
   clear k7 hb7 hbx hw7 hf7 hb6 hr6 hd6 hv6 ra5 rb ra
   go_wp2
   refine bodyPost_ret (v:=.agg #[.slice A7 n7 c7]) (by simp [results,Tryz.results197,go_sem,r7]) rfl ?_
   exact HE.out
  ·have hne:((na:Int) !=(nb:Int))=true:=by simp;omega
   have hbd:=hbw.drew
   have c1d:w2.drew.cell? ⟨p,0,none⟩=some (.slice Aa na ca):=c1
   have c2d:w2.drew.cell? ⟨p+1,0,none⟩=some (.slice Ab nb cb):=c2
   clear hbw c1 c2
   go_wp2_with fail
   go_region_held3 (fun w' => w'.cell? ⟨p,0,none⟩ = some (.slice Aa na ca) ∧ w'.cell? ⟨p + 1,0,none⟩ = some (.slice Ab nb cb) ∧ Below wr.heap.size wr w')
    (first|(exact⟨c1d,c2d,hbd⟩)|(go_split_ands;(repeat' apply And.intro);all_goals (first|with_reducible assumption|exact zac hbx (by with_reducible assumption)|exact zab (by with_reducible assumption) hbx)))
    (first|(go_at_call 147;(first|(with_reducible refine(LA.out _).mono ?_)|(with_reducible refine(LB.out _).mono ?_));rintro e w3 ⟨rfl,hbx⟩))
   rename_i hH
   obtain⟨c1,c2,hbw⟩:=hH
   have k1:=HK1.out.keep hbw
   have k2:=HK2.out.keep hbw
   have k3:=HK3.out.keep hbw
   have hBW:=zab HBW.out hbw
   have wa:=HWA.out.below hbw
   have wb:=HWB.out.below hbw
   clear hbx c1d c2d hbd HK1 HK2 HK3 HBW HWA HWB LA LB hbw
   by_cases hlt:na<nb
   ·have f1:=k1.frozen
    have f2:=k2.frozen
    have q1:=k1.set_ (.slice Ab nb cb)
    have q2:=(k2.far (p:=⟨p,0,none⟩) (by show p+1≠p;omega) (.slice Ab nb cb))
    have r1:=q1.far (p:=⟨p+1,0,none⟩) (by show p≠p+1;omega) (.slice Aa na ca)
    have r2:=q2.set_ (.slice Aa na ca)
    have r3:=(k3.far (p:=⟨p,0,none⟩) (by show p+1+1≠p;omega) (.slice Ab nb cb)).far (p:=⟨p+1,0,none⟩) (by show p+1+1≠p+1;omega) (.slice Aa na ca)
    have ra:=zao (zao wa k1 (.slice Ab nb cb)) q2 (.slice Aa na ca)
    have rb:=zao (zao wb k1 (.slice Ab nb cb)) q2 (.slice Aa na ca)
    have rB:=(hBW.setCell (p:=⟨p,0,none⟩) (by show w.heap.size<=p;omega) (.slice Ab nb cb)).setCell (p:=⟨p+1,0,none⟩) (by show w.heap.size<=p+1;omega) (.slice Aa na ca)
    have e1:=r1.cell
    have e2:=r2.cell
    have f3:=q2.frozen
    have e3:=q2.cell
    clear k1 k2 k3 wa wb hBW q1 q2
    go_wp2_with fail
    clear e1 e2 e3 f1 f2 f3 c1 c2
    generalize (w3.setCell ⟨p,0,none⟩ (.slice Ab nb cb)).setCell ⟨p+1,0,none⟩ (.slice Aa na ca)=W at*
    have k1:=r1
    have k2:=r2
    have k3:=r3
    have wa:=ra
    have wb:=rb
    have hBW:=rB
    clear r1 r2 r3 ra rb rB
    have hle:xa<xb:=zjw (b:=18446744073709551616) (by decide) (by rw [wb.len,wa.len];omega)
    have hB0:xa≠0:=by have:=HOa.out;omega
    have MD:=lh9 (quotC.mod xb xa Ab Aa nb na cb ca W wb wa lnb lna hB0)
    have HWB:=lh9 wa
    have HK1:=lh9 k1
    have HK2:=lh9 k2
    have HK3:=lh9 k3
    have HBW:=lh9 hBW
    have hnB:=wa.len
    clear wa wb k1 k2 k3 hBW
    refine MD.out.mono ?_
    rintro e w3 ⟨A3,n3,c3,rfl,hr3,hb⟩
    have k1:=HK1.out.keep hb
    have k2:=HK2.out.keep hb
    have k3:=HK3.out.keep hb
    have hBW:=zab HBW.out hb
    have wa:=HWB.out.below hb
    obtain⟨d1,d2,d3⟩:=zav w3 37 #[.slice A3 n3 c3]
    have k1:=k1.keep d1
    have k2:=k2.keep d1
    have k3:=k3.keep d1
    have hBW:=zab hBW d1
    have wa:=wa.below d1
    have hr3:=hr3.below d1
    have k5:=d2.one
    have g5:=k5.cell
    have f1:=k1.frozen
    have e1:=k1.cell
    have hl1:=k1.lt
    have hl3:=k3.lt
    clear d1 d2 d3 hb HK1 HK2 HK3 HBW HWB MD
    by_cases hz:xb%xa=0
    ·have hG:Hid (xa=G):=by
      have h:=HGb.out
      rw [Nat.gcd_comm,Nat.gcd_rec,hz,Nat.gcd_zero_left] at h
      exact h
     have ZY:=lh9 (zee hz hr3)
     have HK2:=lh9 k2
     have HK3:=lh9 k3
     have HBW:=lh9 hBW
     have HWB:=lh9 wa
     clear k1 k2 k3 hBW wa hr3 e1 f1
     go_wp2_with fail
     refine ZY.out.mono ?_
     rintro e w4 ⟨rfl,hb⟩
     have k2:=HK2.out.keep hb
     have k3:=HK3.out.keep hb
     have hBW:=zab HBW.out hb
     have wa:=HWB.out.below hb
     have e2:=k2.cell
     have e3:=k3.cell
     have f3:=k3.frozen
     have r4:=(k3.set_ (.slice Aa na ca)).cell
     have HE:Hid (zdb w G (.returned (.agg #[.slice Aa na ca])) (w4.setCell ⟨p+1+1,0,none⟩ (.slice Aa na ca))):=⟨_,_,_,rfl,by rw [<-hG.out];exact zao wa k3 _,hBW.setCell (p:=⟨p+1+1,0,none⟩) (by show w.heap.size<=p+1+1;omega) _⟩
     clear hG HK2 HK3 HBW HWB k2 k3 wa hBW hb
     go_wp2
     refine bodyPost_ret (v:=.agg #[.slice Aa na ca]) (by simp [results,Tryz.results197,go_sem,r4]) rfl ?_
     exact HE.out
    ·have ZN:=lh9 (zer hz hr3)
     have HR3:=lh9 hr3
     have HK1:=lh9 k1
     have HK2:=lh9 k2
     have HK3:=lh9 k3
     have HBW:=lh9 hBW
     have HWB:=lh9 wa
     clear k1 k2 k3 hBW wa hr3 e1 f1
     go_wp2_with fail
     refine ZN.out.mono ?_
     rintro e w4 ⟨rfl,hb⟩
     have g5:=zac hb g5
     have hr3:=HR3.out.below hb
     have hBW:=zab HBW.out hb
     have hrb:xb%xa<xa:=Nat.mod_lt _ (by omega)
     have hn3:n3<=na:=by
      rw [<-hr3.len,<-hnB]
      exact zbT (by decide) (by omega)
     have OP:=lh9 (zek _ A3 n3 c3 w4 hr3 (by omega) (HT.out.on hBW))
     have HB4:=lh9 hb
     clear hr3 hBW HR3 hb
     go_wp2_with fail
     refine OP.out.mono ?_
     rintro e w5 ⟨A6,n6,c6,rfl,hr6,hb,_⟩
     have hbb:=zab HB4.out hb
     have k1:=HK1.out.keep hbb
     have k2:=HK2.out.keep hbb
     have k3:=HK3.out.keep hbb
     have hBW:=zab HBW.out hbb
     have wa:=HWB.out.below hbb
     have hs:=zni hz HGb.out HOa.out
     obtain⟨g1,g2,g3⟩:=hs
     have hn6:n6<=na:=by
      rw [<-hr6.len,<-hnB]
      exact zbT (by decide) (by omega)
     have HE : Hid (OddI w (w5.setCell ⟨p,0,none⟩ (.slice A6 n6 c6)) p G (zdL (xb % xa) + xa) (zdL (xb % xa)) xa A6 Aa n6 c6 na ca) :=
      ⟨k1.set_ _,k2.far (p:=⟨p,0,none⟩) (by show p+1≠p;omega) _,k3.far (p:=⟨p,0,none⟩) (by show p+1+1≠p;omega) _,zao hr6 k1 _,zao wa k1 _,g1,HOa.out,g2,rfl,by omega,lna,hBW.setCell (p:=⟨p,0,none⟩) (by show w.heap.size<=p;omega) _⟩
     have e1:=k1.cell
     have f1:=k1.frozen
     clear k1 k2 k3 hBW wa hr6 hbb HB4 hb HK1 HK2 HK3 HBW HWB g5
     go_wp2
     go_roundg (zdL (xb%xa)+xa+1)
     case measure=>omega
     case rel=>exact⟨_,_,_,_,_,_,_,_,_,HE.out,by omega⟩
   ·clear c1 c2
    have c1:=k1.cell
    have c2:=k2.cell
    go_wp2_with fail
    obtain⟨W,hW⟩:∃x,x=w3:=⟨_,rfl⟩
    subst hW
    have hle:xb<xa:=zjw (b:=18446744073709551616) (by decide) (by rw [wa.len,wb.len];omega)
    have hB0:xb≠0:=by have:=HOb.out;omega
    have MD:=lh9 (quotC.mod xa xb Aa Ab na nb ca cb W wa wb lna lnb hB0)
    have HWB:=lh9 wb
    have HK1:=lh9 k1
    have HK2:=lh9 k2
    have HK3:=lh9 k3
    have HBW:=lh9 hBW
    have hnB:=wb.len
    clear wa wb k1 k2 k3 hBW
    refine MD.out.mono ?_
    rintro e w3 ⟨A3,n3,c3,rfl,hr3,hb⟩
    have k1:=HK1.out.keep hb
    have k2:=HK2.out.keep hb
    have k3:=HK3.out.keep hb
    have hBW:=zab HBW.out hb
    have wb:=HWB.out.below hb
    obtain⟨d1,d2,d3⟩:=zav w3 37 #[.slice A3 n3 c3]
    have k1:=k1.keep d1
    have k2:=k2.keep d1
    have k3:=k3.keep d1
    have hBW:=zab hBW d1
    have wb:=wb.below d1
    have hr3:=hr3.below d1
    have k5:=d2.one
    have g5:=k5.cell
    have f1:=k1.frozen
    have e1:=k1.cell
    have hl1:=k1.lt
    have hl3:=k3.lt
    clear d1 d2 d3 hb HK1 HK2 HK3 HBW HWB MD
    by_cases hz:xa%xb=0
    ·have hG:Hid (xb=G):=by
      have h:=HGa.out
      rw [Nat.gcd_comm,Nat.gcd_rec,hz,Nat.gcd_zero_left] at h
      exact h
     have ZY:=lh9 (zee hz hr3)
     have HK2:=lh9 k2
     have HK3:=lh9 k3
     have HBW:=lh9 hBW
     have HWB:=lh9 wb
     clear k1 k2 k3 hBW wb hr3 e1 f1
     go_wp2_with fail
     refine ZY.out.mono ?_
     rintro e w4 ⟨rfl,hb⟩
     have k2:=HK2.out.keep hb
     have k3:=HK3.out.keep hb
     have hBW:=zab HBW.out hb
     have wb:=HWB.out.below hb
     have e2:=k2.cell
     have e3:=k3.cell
     have f3:=k3.frozen
     have r4:=(k3.set_ (.slice Ab nb cb)).cell
     have HE:Hid (zdb w G (.returned (.agg #[.slice Ab nb cb])) (w4.setCell ⟨p+1+1,0,none⟩ (.slice Ab nb cb))):=⟨_,_,_,rfl,by rw [<-hG.out];exact zao wb k3 _,hBW.setCell (p:=⟨p+1+1,0,none⟩) (by show w.heap.size<=p+1+1;omega) _⟩
     clear hG HK2 HK3 HBW HWB k2 k3 wb hBW hb
     go_wp2
     refine bodyPost_ret (v:=.agg #[.slice Ab nb cb]) (by simp [results,Tryz.results197,go_sem,r4]) rfl ?_
     exact HE.out
    ·have ZN:=lh9 (zer hz hr3)
     have HR3:=lh9 hr3
     have HK1:=lh9 k1
     have HK2:=lh9 k2
     have HK3:=lh9 k3
     have HBW:=lh9 hBW
     have HWB:=lh9 wb
     clear k1 k2 k3 hBW wb hr3 e1 f1
     go_wp2_with fail
     refine ZN.out.mono ?_
     rintro e w4 ⟨rfl,hb⟩
     have g5:=zac hb g5
     have hr3:=HR3.out.below hb
     have hBW:=zab HBW.out hb
     have hrb:xa%xb<xb:=Nat.mod_lt _ (by omega)
     have hn3:n3<=nb:=by
      rw [<-hr3.len,<-hnB]
      exact zbT (by decide) (by omega)
     have OP:=lh9 (zek _ A3 n3 c3 w4 hr3 (by omega) (HT.out.on hBW))
     have HB4:=lh9 hb
     clear hr3 hBW HR3 hb
     go_wp2_with fail
     refine OP.out.mono ?_
     rintro e w5 ⟨A6,n6,c6,rfl,hr6,hb,_⟩
     have hbb:=zab HB4.out hb
     have k1:=HK1.out.keep hbb
     have k2:=HK2.out.keep hbb
     have k3:=HK3.out.keep hbb
     have hBW:=zab HBW.out hbb
     have wb:=HWB.out.below hbb
     have hs:=zni hz HGa.out HOb.out
     obtain⟨g1,g2,g3⟩:=hs
     have hn6:n6<=nb:=by
      rw [<-hr6.len,<-hnB]
      exact zbT (by decide) (by omega)
     have HE : Hid (OddI w (w5.setCell ⟨p,0,none⟩ (.slice A6 n6 c6)) p G (zdL (xa % xb) + xb) (zdL (xa % xb)) xb A6 Ab n6 c6 nb cb) :=
      ⟨k1.set_ _,k2.far (p:=⟨p,0,none⟩) (by show p+1≠p;omega) _,k3.far (p:=⟨p,0,none⟩) (by show p+1+1≠p;omega) _,zao hr6 k1 _,zao wb k1 _,g1,HOb.out,g2,rfl,by omega,lnb,hBW.setCell (p:=⟨p,0,none⟩) (by show w.heap.size<=p;omega) _⟩
     have e1:=k1.cell
     have f1:=k1.frozen
     clear k1 k2 k3 hBW wb hr6 hbb HB4 hb HK1 HK2 HK3 HBW HWB g5
     go_wp2
     go_roundg (zdL (xa%xb)+xb+1)
     case measure=>omega
     case rel=>exact⟨_,_,_,_,_,_,_,_,_,HE.out,by omega⟩
theorem zok (x k:Nat)(A:oA9)(n c:Nat)(w:World)(hA:zad w x A n c)(hn:n<=137438953472)(hk:k<=1099511627776):
  Calls Tryz.prog 196 #[.agg #[.slice A n c],.int .i64 k] w (zaO w (2^k*x)):=by
 obtain⟨i0,hi0,hz0,hz1,hz2⟩:=info_parts zgx
 have hsz:Sz (n+1) (2^(k%64)*x):=Sz.shl' (M:=1) (show Sz n x by have h:=zbM (b:=18446744073709551616) (by decide) x;rw [hA.len] at h;exact h) (by omega)
 have HS:=lh9 (λw' (hb:Below w.heap.size w w')=>zpB x (k%64) A n c w' (hA.below hb) (by omega) (by omega))
 have HV:Hid (18446744073709551616^(k / 64)*(2^(k%64)*x)=2^k*x):=by show _=_;rw [<-Nat.mul_assoc,kpow]
 obtain⟨q,hq⟩:∃q,k / 64=q:=⟨_,rfl⟩
 obtain⟨r,hr⟩:∃r,k%64=r:=⟨_,rfl⟩
 have hq':(k:Int) / 64=(q:Int):=by omega
 have hr':(k:Int)%64=(r:Int):=by omega
 have hqt:(k:Int).tdiv 64=(q:Int):=by rw [Int.tdiv_eq_ediv_of_nonneg (by omega)];exact hq'
 have hrt:(k:Int).tmod 64=(r:Int):=by rw [Int.tmod_eq_emod_of_nonneg (by omega)];exact hr'
 have hqk:q<=17179869184:=by omega
 have hqw:IntKind.i64.wrap (q:Int)=(q:Int):=IntWalk.i64_in _ (by omega)
 have hrw:IntKind.i64.wrap (r:Int)=(r:Int):=IntWalk.i64_in _ (by omega)
 rw [hq,hr] at HV
 rw [hr] at HS hsz
 obtain⟨y,hy⟩:∃y,2^r*x=y:=⟨_,rfl⟩
 obtain⟨X,hX⟩:∃y,2^k*x=y:=⟨_,rfl⟩
 rw [hy] at HS hsz
 rw [hy,hX] at HV
 rw [hX]
 have HSZ:=lh9 hsz
 have HW:=lh9 (λw' A' n' c' (h:zad w' y A' n' c') (hb:n'<=1099511627776)=>zdy y A' n' c' w' h hb)
 obtain⟨Z,hZ⟩:∃Z,madeCells (Value.cells (.int .u64 0)) q=Z:=⟨_,rfl⟩
 have hmk:∀W:World,(Instr.makeSlice 35 (.int .i64 (q:Int)) (.int .i64 (q:Int))).run Tryz.prog W=.ok (.slice (some ⟨W.heap.size,0,none⟩) q q) (W.alloc (.cells Z 160)):=λW=>by
  have h:=zaW _ _ i0 _ Tryz.underlying35 hi0 hz0 .i64 .i64 q q (Nat.le_refl _) (by rw [hz2];omega) (by omega) W
  rw [hz1,Nat.mul_one,hZ] at h
  exact h
 have HM:Hid (∀W:World,zaq (W.alloc (.cells Z 160)) 160 W.heap.size q q (List.replicate q 0)):=λW=>by
  have h:=zaq.made W 160 q (by unfold maxLen;omega)
  rw [hZ] at h
  exact h
 clear hZ hA hq hr hy hX hsz
 go_enter Tryz.func196,Tryz.ntmps196
 go_wp2_with fail
 obtain⟨b1,b2,b3,b5⟩:=zbI w 37 37 #[.slice A n c] #[.slice none 0 0]
 generalize hW:(w.alloc (.cells #[.slice A n c] 37)).alloc (.cells #[.slice none 0 0] 37)=W0 at*
 clear hW b2
 refine(HS.out _ b1).mono ?_
 rintro e w1 ⟨A1,n1,c1,rfl,hy1,hb,hf1⟩
 have hB:=zab b1 hb
 have hk4:=zaa hb b3
 clear hb b1 b3 b5 hf1 HS
 obtain⟨d1,d2,d5⟩:=zav w1 37 #[.slice A1 n1 c1]
 have hB:=zab hB d1
 have hk4:=zaa d1 hk4
 have hyW:=hy1.below d1
 have g5:(w1.alloc (.cells #[.slice A1 n1 c1] 37)).cell? ⟨w1.heap.size,0,none⟩=some (.slice A1 n1 c1):=d2.cell 0
 have hn1:n1<=n+1:=by have h:=hy1.len;rw [<-h];exact zcD (by decide) _ _ HSZ.out
 have hl4:=hk4.lt
 clear d1 d2 d5 hy1
 go_wp2_with fail
 generalize hW:w1.alloc (.cells #[.slice A1 n1 c1] 37)=W at*
 obtain⟨z,hz⟩:∃z,w1.heap.size=z:=⟨_,rfl⟩
 rw [hz] at g5⊢
 clear hW hz
 have hbw:=hB.size
 have G0:W.drew.cell? ⟨z,0,none⟩=some (.slice A1 n1 c1):=g5
 have G1:(W.alloc (.cells Z 160)).cell? ⟨z,0,none⟩=some (.slice A1 n1 c1):=zal _ g5
 have G2:(W.alloc (.cells Z 160)).drew.cell? ⟨z,0,none⟩=some (.slice A1 n1 c1):=G1
 have HYW:=lh9 hyW
 have HDL:Hid ((dg 18446744073709551616 y).length=n1):=hyW.len
 have HDV:=lh9 (zdz (b:=18446744073709551616) (by decide) y)
 have HDD:=lh9 (zcS (b:=18446744073709551616) (by decide) y)
 obtain⟨D,hD⟩:∃D,dg 18446744073709551616 y=D:=⟨_,rfl⟩
 rw [hD] at HW HDL HDV HDD
 clear hyW hD
 have hW1:=HW.out W A1 n1 c1 HYW.out (by omega)
 have WD:∀w',Hid (Below W.heap.size W w')->Calls Tryz.prog 146 #[.agg #[.slice A1 n1 c1]] w' (zft w' n1 (zaA .u64 D)):=λw' h=>HW.out w' A1 n1 c1 (HYW.out.below h.out) (by omega)
 have HWD:=lh9 WD
 have hbW:Hid (Below W.heap.size W W.drew):=(Below.refl _ W).drew
 have hbZ:Hid (Below W.heap.size W (W.alloc (.cells Z 160)).drew):=((Below.refl _ W).alloc (Nat.le_refl _) _).drew
 have hMZ:Hid (zaq (W.alloc (.cells Z 160)).drew 160 W.heap.size q q (List.replicate q 0)):=(HM.out W).drew
 have HNO:=lh9 (fun(w':World) (A':oA9) (c':Nat) (h:zas w' w'.heap.size 1 A' (q+n1) (zaA .u64 (List.replicate q 0++D))) (h1:q+n1<=c') (h2:c'<=9223372036854775807)=>
  show Calls Tryz.prog 149 #[.slice A' (q+n1:Nat) c'] w' (zaO w' X) from by
   have h:=zcT A' (q+n1) c' (List.replicate q 0++D) w' h ((Dgs.zeros (by decide) q).append HDD.out) h1 h2 (by omega)
   rw [zbJ,zeC,List.length_replicate,HDV.out,Nat.zero_add,HV.out] at h
   exact h)
 clear WD hW1
 go_region_law (first
  |(refine zfq _ rfl (.tmp 16) (.tmp 18) 35 rfl W.heap.size 160 i0 (.int .u64 0) 1 8 Tryz.underlying35 hi0 hz0 hz1 hz2 rfl (by decide) (.slice (some ⟨W.heap.size,0,none⟩) q q) q (zaA .u64 (List.replicate q 0)) rfl ((hMZ.out.keep hb3).own (Nat.le_refl _)) w3.heap.size A3 n1 c3 (zaA .u64 D) rfl hr3 (zhD _ _) (by unfold maxLen;omega) (by omega) hB3.size ?_;intro v4 w4 hown4 hgrow4 hat4;have hB4:Below W.heap.size W w4:=hB3.grown hgrow4 hB3.size (λg e=>by cases e;exact Nat.le_refl _);obtain⟨A4,c4,rfl,hc4a,hc4b,hr4⟩:=zas.of_grown_own hown4;rw [<-zeq] at hr4)
  |(refine zfq _ rfl (.tmp 16) (.tmp 18) 35 rfl W.heap.size 160 i0 (.int .u64 0) 1 8 Tryz.underlying35 hi0 hz0 hz1 hz2 rfl (by decide) (.slice (some ⟨w3.heap.size,0,none⟩) q q) q (zaA .u64 (List.replicate q 0)) rfl ((HM.out w3).own hB3.size) w3.heap.size A3 n1 c3 (zaA .u64 D) rfl (hr3.alloc (Nat.le_refl _) _) (zhD _ _) (by unfold maxLen;omega) (by omega) (by have:=hB3.size;simp;omega) ?_;intro v4 w4 hown4 hgrow4 hat4;have hB4:Below W.heap.size W w4:=(zaj _ hB3).grown hgrow4 (by have:=hB3.size;simp;omega) (λg e=>by cases e;exact hB3.size);obtain⟨A4,c4,rfl,hc4a,hc4b,hr4⟩:=zas.of_grown_own hown4;rw [<-zeq] at hr4)
  |(go_simp;go_at_call 146;refine(HWD.out _ (by first|exact hbW|exact hbZ)).mono ?_;rintro e w3 ⟨v3,rfl,hown3,hb3⟩;obtain⟨A3,c3,rfl,hc3a,hc3b,hr3⟩:=zas.of_grown_own hown3;have hB3:Below W.heap.size W w3:=(by first|exact hbW.out.trans (hb3.mono hbW.out.size)|exact hbZ.out.trans (hb3.mono hbZ.out.size)))
  |(go_simp;go_at_call 149;refine(HNO.out w4 A4 c4 hr4 hc4a (by unfold maxLen at hc4b;omega)).mono ?_;rintro e w5 ⟨A5,n5,c5,rfl,hw5,hb5,hf5⟩;have hB5:Below W.heap.size W w5:=zab hB4 hb5;have hk5:=zaa hB5 hk4;have hc1:=hk5.cell 0;have hf1:=hk5.frozen 0))
 all_goals
  have hs5:=hB4.size
  have p4:zcf w5 (w.heap.size+1) (.slice none 0 0):=⟨_,hk5⟩
  have r4:=(p4.set_ (.slice A5 n5 c5)).cell
  have hBB:=zab hB hB5
  have HG : Hid (zaO w X (.returned (.agg #[.slice A5 n5 c5])) (w5.setCell ⟨w.heap.size + 1,0,none⟩ (.slice A5 n5 c5))) :=
   zhh hw5 hBB (by show _<=_;simp) (λad e=>by have:=hf5 ad e;show ad.block≠_;simp;omega) (λad e=>by have:=hf5 ad e;omega) _
  clear hw5 hf5 hk5 p4 hBB hB5 hb5 hB4 hr4 hown4 hgrow4 hat4 hr3 hown3 hb3 hB3
  go_wp2
  refine bodyPost_ret (v:=.agg #[.slice A5 n5 c5]) (by simp [results,Tryz.results196,go_sem,r4]) rfl ?_
  exact HG.out
theorem zlD {a b:Nat}(ha:a%2=1):∀k,Nat.gcd (2^k*b) a=Nat.gcd b a
 |0=>by rw [Nat.pow_zero,Nat.one_mul]
 |k+1=>by
   have h:=zgJ (p:=2^(k+1)*b) (q:=a) (by rw [Nat.pow_succ,Nat.mul_comm (2^k) 2,Nat.mul_assoc];exact Nat.mul_mod_right _ _) (by omega)
   rw [<-h,Nat.pow_succ,Nat.mul_comm (2^k) 2,Nat.mul_assoc,Nat.mul_div_cancel_left _ (by decide)]
   exact zlD ha k
theorem znh {x:Nat}(h:x≠0):2^zbO x*zdL x=x:=by
 rcases tw_N x with⟨e,_⟩|⟨m,hm⟩
 ·exact absurd e h
 ·unfold zdL
  exact Nat.mul_div_cancel' ⟨2*m+1,hm⟩
theorem gcd_twos {x y:Nat}(hx:x≠0)(hy:y≠0):2^min (zbO x) (zbO y)*Nat.gcd (zdL x) (zdL y)=Nat.gcd x y:=by
 have ex:=znh hx
 have ey:=znh hy
 have ox:=zfK hx
 have oy:=zfK hy
 obtain⟨s,hs⟩:∃s,zbO x=s:=⟨_,rfl⟩
 obtain⟨t,ht⟩:∃s,zbO y=s:=⟨_,rfl⟩
 rw [hs] at ex⊢
 rw [ht] at ey⊢
 rcases Nat.le_total s t with h|h
 ·obtain⟨d,rfl⟩:∃d,t=s+d:=⟨t - s,by omega⟩
  rw [Nat.min_eq_left h]
  conv=>rhs;rw [<-ex,<-ey,Nat.pow_add,Nat.mul_assoc,Nat.gcd_mul_left,Nat.gcd_comm,zlD ox,Nat.gcd_comm]
 ·obtain⟨d,rfl⟩:∃d,s=t+d:=⟨s - t,by omega⟩
  rw [Nat.min_eq_right h]
  conv=>rhs;rw [<-ex,<-ey,Nat.pow_add,Nat.mul_assoc,Nat.gcd_mul_left,zlD oy]
theorem zki {x n:Nat}(h:(dg 18446744073709551616 x).length=n):zbO x<=64*n:=by
 rcases tw_N x with⟨_,e⟩|⟨m,hm⟩
 ·omega
 ·have h1:=zbM (b:=18446744073709551616) (by decide) x
  rw [h,show(18446744073709551616:Nat)=2^64 from rfl,<-Nat.pow_mul] at h1
  have h2:2^zbO x<=x:=by
   conv=>rhs;rw [hm]
   exact Nat.le_mul_of_pos_right _ (by omega)
  rcases Nat.lt_or_ge (64*n) (zbO x) with h3|h3
  ·have:=Nat.pow_le_pow_right (n:=2) (by decide) (Nat.le_of_lt h3)
   omega
  ·exact h3
theorem gcd_of (x y:Nat)(A D:oA9)(n m c d:Nat)(w:World)(hA:zad w x A n c)(hD:zad w y D m d)(hn:n<=1073741824)(hm:m<=1073741824)(hT:zai w):
  Calls Tryz.prog 159 #[.agg #[.slice A n c],.agg #[.slice D m d]] w (zdb w (Nat.gcd x y)):=by
 obtain⟨G,hG⟩:∃g,Nat.gcd x y=g:=⟨_,rfl⟩
 rw [hG]
 have HG:=lh9 hG
 clear hG
 have HLA:=lh9 hA.len
 have HLD:=lh9 hD.len
 obtain⟨ux,bx,HU,hu⟩:∃(ux:Nat) (bx:Bool),Hid (∀w',Below w.heap.size w w'->Calls Tryz.prog 162 #[.agg #[.slice A n c]] w' λe w''=>e=.returned (.tuple #[.int .u64 ux,.bool bx])/\Below w'.heap.size w' w'')/\((n<=1/\bx=true/\ux=wd x 0)\/(1<n/\bx=false)):=by
  by_cases h:n<=1
  ·exact⟨_,_,λw' hb=>zdf x A n c w' (hA.below hb) h,.inl ⟨h,rfl,rfl⟩⟩
  ·exact⟨0,_,λw' hb=>zcN A n c w' (by omega),.inr ⟨by omega,rfl⟩⟩
 obtain⟨uy,bY,HV,hv⟩:∃(ux:Nat) (bx:Bool),Hid (∀w',Below w.heap.size w w'->Calls Tryz.prog 162 #[.agg #[.slice D m d]] w' λe w''=>e=.returned (.tuple #[.int .u64 ux,.bool bx])/\Below w'.heap.size w' w'')/\((m<=1/\bx=true/\ux=wd y 0)\/(1<m/\bx=false)):=by
  by_cases h:m<=1
  ·exact⟨_,_,λw' hb=>zdf y D m d w' (hD.below hb) h,.inl ⟨h,rfl,rfl⟩⟩
  ·exact⟨0,_,λw' hb=>zcN D m d w' (by omega),.inr ⟨by omega,rfl⟩⟩
 go_enter Tryz.func159,Tryz.ntmps159
 go_wp2_with fail
 obtain⟨b1,b2,b3,b4,b5⟩:=zbL w 37 37 37 #[.slice A n c] #[.slice D m d] #[.slice none 0 0]
 generalize hW:((w.alloc (.cells #[.slice A n c] 37)).alloc (.cells #[.slice D m d] 37)).alloc (.cells #[.slice none 0 0] 37)=W0 at*
 obtain⟨p,hp⟩:∃p,w.heap.size=p:=⟨_,rfl⟩
 have hpw:w.heap.size<=p:=by omega
 have g1:W0.cell? ⟨p,0,none⟩=some (.slice A n c):=by rw [<-hp];exact b2.cell 0
 have g2:W0.cell? ⟨p+1,0,none⟩=some (.slice D m d):=by rw [<-hp];exact b3.cell 0
 have HK3:Hid (zcf W0 (p+1+1) (.slice none 0 0)):=by rw [<-hp];exact b4.one
 have HB:=lh9 b1
 have HA0:=lh9 (hA.below b1)
 have HD0:=lh9 (hD.below b1)
 have HT0:=lh9 (hT.on b1)
 refine(HU.out _ b1).mono ?_
 rw [hp]
 clear hp hW b2 b3 b4 b5 hA hD hT b1
 rintro e w1 ⟨rfl,hb⟩
 have g1:=zac hb g1
 have g2:=zac hb g2
 have hb1:=hb
 clear hb
 go_wp2_with fail
 refine(HV.out _ (zab HB.out hb1)).mono ?_
 rintro e w2 ⟨rfl,hb⟩
 have g1:=zac hb g1
 have g2:=zac hb g2
 have hb2:=zab hb1 hb
 clear hb hb1 HU HV
 by_cases hboth:n<=1/\m<=1
 ·obtain⟨h1,h2⟩:=hboth
  rcases hu with⟨_,rfl,hux⟩|⟨h,_⟩
  ·rcases hv with⟨_,rfl,huy⟩|⟨h,_⟩
   ·have lx:x<18446744073709551616:=by
     have h:=zbM (b:=18446744073709551616) (by decide) x
     exact Nat.lt_of_lt_of_le h (by rw [HLA.out];exact Nat.pow_le_pow_right (by decide) h1)
    have ly:y<18446744073709551616:=by
     have h:=zbM (b:=18446744073709551616) (by decide) y
     exact Nat.lt_of_lt_of_le h (by rw [HLD.out];exact Nat.pow_le_pow_right (by decide) h2)
    have ex:ux=x:=by rw [hux];unfold wd;rw [Nat.pow_zero,Nat.div_one,Nat.mod_eq_of_lt lx]
    have ey:uy=y:=by rw [huy];unfold wd;rw [Nat.pow_zero,Nat.div_one,Nat.mod_eq_of_lt ly]
    subst ex ey
    have GW:=lh9 (λw'=>zkK ux uy w' lx ly)
    rw [HG.out] at GW
    have lG:Hid (G<18446744073709551616):=by
     show _<_
     rw [<-HG.out]
     rcases Nat.eq_zero_or_pos ux with e|e
     ·rw [e,Nat.gcd_zero_left];exact ly
     ·exact Nat.lt_of_le_of_lt (Nat.gcd_le_left _ e) lx
    clear hux huy lx ly HLA HLD
    go_wp2_with fail
    refine(GW.out _).mono ?_
    rintro e w3 ⟨rfl,hb⟩
    have hb3:=zab hb2 hb
    have NO:=lh9 (fun(W:World)=>show Calls Tryz.prog 149 #[.slice (some ⟨W.heap.size,0,none⟩) 1 1] (W.alloc (.cells #[.int .u64 (G:Int)] 160)) (zaO (W.alloc (.cells #[.int .u64 (G:Int)] 160)) G) from by
     have h:=zcT (some ⟨W.heap.size,0,none⟩) 1 1 [G] (W.alloc (.cells #[.int .u64 (G:Int)] 160)) (zpK W _ G).reads (by intro d hd;simp at hd;have:=lG.out;omega) (Nat.le_refl _) (by omega) (by omega)
     rw [show dv 18446744073709551616 [G]=G by simp [dv]] at h
     exact h)
    clear hb hb2
    go_wp2_with fail
    refine(NO.out _).mono ?_
    rintro e w5 ⟨A5,n5,c5,rfl,hw5,hb,_⟩
    have hb5:=zab (zaj _ hb3) hb
    clear hb3 hb
    have k5:=HK3.out.keep (w':=w5) hb5
    have f5:=k5.frozen
    have e5:=k5.cell
    have r5:=(k5.set_ (.slice A5 n5 c5)).cell
    have HE:Hid (zdb w G (.returned (.agg #[.slice A5 n5 c5])) (w5.setCell ⟨p+1+1,0,none⟩ (.slice A5 n5 c5))):=⟨_,_,_,rfl,zao hw5 k5 _,(zab HB.out hb5).setCell (p:=⟨p+1+1,0,none⟩) (by show w.heap.size<=p+1+1;omega) _⟩
    clear k5 hw5 hb5
    go_wp2
    refine bodyPost_ret (v:=.agg #[.slice A5 n5 c5]) (by simp [results,Tryz.results159,go_sem,r5]) rfl ?_
    exact HE.out
   ·omega
  ·omega
 ·by_cases hx:x=0
  ·have HWb:=lh9 (λw' (h:Below W0.heap.size W0 w')=>show Calls _ _ _ _ (zfn w' (dg 18446744073709551616 G).length (zaA .u64 (dg 18446744073709551616 G))) from by
    have e:y=G:=by rw [<-HG.out,hx,Nat.gcd_zero_left]
    rw [<-e];exact zdo y D m d w' (HD0.out.below h) (by omega))
   have HLb:Hid ((dg 18446744073709551616 G).length<=1099511627776):=by
    show _<=_
    rw [<-HG.out,hx,Nat.gcd_zero_left,HLD.out];omega
   have ZA:=lh9 (zee hx (HA0.out.below hb2))
   have hbb:bx=true/\bY=false\/bx=false/\bY=true\/bx=false/\bY=false:=by
    rcases hu with⟨_,rfl,_⟩|⟨_,rfl⟩<;>rcases hv with⟨_,rfl,_⟩|⟨_,rfl⟩<;>first|(exfalso;omega)|simp
   clear hu hv hboth HLA HLD HA0 HD0
   rcases hbb with⟨rfl,rfl⟩|⟨rfl,rfl⟩|⟨rfl,rfl⟩
   all_goals
    go_wp2_with fail
    refine ZA.out.mono ?_
    rintro e w3 ⟨rfl,hb⟩
    have g2:=zac hb g2
    have hb3:=zab hb2 hb
    clear hb
    go_wp2_with fail
    refine(HWb.out _ hb3).mono ?_
    rintro e w4 ⟨A4,c4,rfl,hr4,hc4,⟨hc5,_⟩,hb⟩
    have hb4:=zab hb3 hb
    have NO:=zcT A4 _ c4 (dg 18446744073709551616 G) w4 hr4 (zcS (by decide) _) hc4 hc5 HLb.out
    rw [zdz (by decide)] at NO
    have HNO:=lh9 NO
    obtain⟨len,hlen⟩:∃len,(dg 18446744073709551616 G).length=len:=⟨_,rfl⟩
    rw [hlen] at HNO⊢
    clear NO hr4 hc4 hc5 hb hlen
    go_wp2_with fail
    refine HNO.out.mono ?_
    rintro e w5 ⟨A5,n5,c5,rfl,hw5,hb,_⟩
    have hb5:=zab hb4 hb
    have k5:=HK3.out.keep (w':=w5) hb5
    have f5:=k5.frozen
    have e5:=k5.cell
    have r5:=(k5.set_ (.slice A5 n5 c5)).cell
    have HE:Hid (zdb w G (.returned (.agg #[.slice A5 n5 c5])) (w5.setCell ⟨p+1+1,0,none⟩ (.slice A5 n5 c5))):=⟨_,_,_,rfl,zao hw5 k5 _,(zab HB.out hb5).setCell (p:=⟨p+1+1,0,none⟩) (by show w.heap.size<=p+1+1;omega) _⟩
    clear k5 hw5 hb5
    go_wp2
    refine bodyPost_ret (v:=.agg #[.slice A5 n5 c5]) (by simp [results,Tryz.results159,go_sem,r5]) rfl ?_
    exact HE.out
  ·by_cases hy:y=0
   ·have HWa:=lh9 (λw' (h:Below W0.heap.size W0 w')=>show Calls _ _ _ _ (zfn w' (dg 18446744073709551616 G).length (zaA .u64 (dg 18446744073709551616 G))) from by
     have e:x=G:=by rw [<-HG.out,hy,Nat.gcd_zero_right]
     rw [<-e];exact zdo x A n c w' (HA0.out.below h) (by omega))
    have HLa:Hid ((dg 18446744073709551616 G).length<=1099511627776):=by
     show _<=_
     rw [<-HG.out,hy,Nat.gcd_zero_right,HLA.out];omega
    have ZA:=lh9 (zer hx (HA0.out.below hb2))
    have ZB:=lh9 (λw' (h:Below W0.heap.size W0 w')=>zee hy (HD0.out.below h))
    have hbb:bx=true/\bY=false\/bx=false/\bY=true\/bx=false/\bY=false:=by
     rcases hu with⟨_,rfl,_⟩|⟨_,rfl⟩<;>rcases hv with⟨_,rfl,_⟩|⟨_,rfl⟩<;>first|(exfalso;omega)|simp
    clear hu hv hboth HLA HLD HA0 HD0
    rcases hbb with⟨rfl,rfl⟩|⟨rfl,rfl⟩|⟨rfl,rfl⟩
    all_goals
     go_wp2_with fail
     refine ZA.out.mono ?_
     rintro e w3' ⟨rfl,hb⟩
     have g1:=zac hb g1
     have g2:=zac hb g2
     have hb3':=zab hb2 hb
     clear hb
     go_wp2_with fail
     refine(ZB.out _ hb3').mono ?_
     rintro e w3 ⟨rfl,hb⟩
     have g1:=zac hb g1
     have hb3:=zab hb3' hb
     clear hb hb3'
     go_wp2_with fail
     refine(HWa.out _ hb3).mono ?_
     rintro e w4 ⟨A4,c4,rfl,hr4,hc4,⟨hc5,_⟩,hb⟩
     have hb4:=zab hb3 hb
     have NO:=zcT A4 _ c4 (dg 18446744073709551616 G) w4 hr4 (zcS (by decide) _) hc4 hc5 HLa.out
     rw [zdz (by decide)] at NO
     have HNO:=lh9 NO
     obtain⟨len,hlen⟩:∃len,(dg 18446744073709551616 G).length=len:=⟨_,rfl⟩
     rw [hlen] at HNO⊢
     clear NO hr4 hc4 hc5 hb hlen
     go_wp2_with fail
     refine HNO.out.mono ?_
     rintro e w5 ⟨A5,n5,c5,rfl,hw5,hb,_⟩
     have hb5:=zab hb4 hb
     have k5:=HK3.out.keep (w':=w5) hb5
     have f5:=k5.frozen
     have e5:=k5.cell
     have r5:=(k5.set_ (.slice A5 n5 c5)).cell
     have HE:Hid (zdb w G (.returned (.agg #[.slice A5 n5 c5])) (w5.setCell ⟨p+1+1,0,none⟩ (.slice A5 n5 c5))):=⟨_,_,_,rfl,zao hw5 k5 _,(zab HB.out hb5).setCell (p:=⟨p+1+1,0,none⟩) (by show w.heap.size<=p+1+1;omega) _⟩
     clear k5 hw5 hb5
     go_wp2
     refine bodyPost_ret (v:=.agg #[.slice A5 n5 c5]) (by simp [results,Tryz.results159,go_sem,r5]) rfl ?_
     exact HE.out
   ·have ZA:=lh9 (zer hx (HA0.out.below hb2))
    have ZB:=lh9 (λw' (h:Below W0.heap.size W0 w')=>zer hy (HD0.out.below h))
    have PA:=lh9 (λw' (h:Below W0.heap.size W0 w')=>zek x A n c w' (HA0.out.below h) (by omega) (HT0.out.on h))
    have PB:=lh9 (λw' (h:Below W0.heap.size W0 w')=>zek y D m d w' (HD0.out.below h) (by omega) (HT0.out.on h))
    have TA:=lh9 (λw' (h:Below W0.heap.size W0 w')=>zjI x A n c w' (HA0.out.below h) (by omega) (HT0.out.on h))
    have TB:=lh9 (λw' (h:Below W0.heap.size W0 w')=>zjI y D m d w' (HD0.out.below h) (by omega) (HT0.out.on h))
    have tx:=zki HLA.out
    have ty:=zki HLD.out
    have lx:=zbT (b:=18446744073709551616) (by decide) (zlR x)
    have ly:=zbT (b:=18446744073709551616) (by decide) (zlR y)
    rw [HLA.out] at lx
    rw [HLD.out] at ly
    have ox:=zfK hx
    have oy:=zfK hy
    have HGT:Hid (2^min (zbO x) (zbO y)*Nat.gcd (zdL x) (zdL y)=G):=by show _=_;rw [gcd_twos hx hy];exact HG.out
    have lg:(dg 18446744073709551616 (Nat.gcd (zdL x) (zdL y))).length<=n:=Nat.le_trans (zbT (by decide) (Nat.gcd_le_left _ (by omega))) lx
    obtain⟨s,hs⟩:∃s,zbO x=s:=⟨_,rfl⟩
    obtain⟨t,ht⟩:∃s,zbO y=s:=⟨_,rfl⟩
    obtain⟨X,hX⟩:∃s,zdL x=s:=⟨_,rfl⟩
    obtain⟨Y,hY⟩:∃s,zdL y=s:=⟨_,rfl⟩
    rw [hs] at TA tx
    rw [ht] at TB ty
    rw [hX] at PA lx ox
    rw [hY] at PB ly oy
    rw [hs,ht,hX,hY] at HGT
    rw [hX,hY] at lg
    obtain⟨g,hg⟩:∃s,Nat.gcd X Y=s:=⟨_,rfl⟩
    obtain⟨k,hk⟩:∃z,min s t=z:=⟨_,rfl⟩
    rw [hg,hk] at HGT
    rw [hg] at lg
    have hk1:k<=1099511627776:=by omega
    have q1:(if (t:Int)<(s:Int) then(t:Int) else(s:Int))=(k:Int):=by split<;>omega
    have q6:(if t<s then(t:Int) else(s:Int))=(k:Int):=by split<;>omega
    have q2:(if t<s then t else s)=k:=by split<;>omega
    have q3:(if (s:Int)<=(t:Int) then(s:Int) else(t:Int))=(k:Int):=by split<;>omega
    have q4:(if (s:Int)<(t:Int) then(s:Int) else(t:Int))=(k:Int):=by split<;>omega
    have q5:(if s<t then s else t)=k:=by split<;>omega
    have OO:=lh9 (fun (w' : World) (A1 A2 : oA9) (n1 n2 c1 c2 : Nat) (h1 : zad w' X A1 n1 c1) (h2 : zad w' Y A2 n2 c2) (h : Below W0.heap.size W0 w') => show Calls Tryz.prog 197 #[.agg #[.slice A1 n1 c1],.agg #[.slice A2 n2 c2]] w' (zdb w' g) from
     hg▸gcd_odd X Y A1 A2 n1 n2 c1 c2 w' h1 h2 (by rw [<-h1.len];omega) (by rw [<-h2.len];omega) ox oy (HT0.out.on h))
    have RA:=lh9 (fun (w' : World) (A1 : oA9) (n1 c1 : Nat) (h1 : zad w' g A1 n1 c1) => show Calls Tryz.prog 196 #[.agg #[.slice A1 n1 c1],.int .i64 (k : Int)] w' (zaO w' G) from
     HGT.out▸zok g k A1 n1 c1 w' h1 (by rw [<-h1.len];omega) hk1)
    have hbb:bx=true/\bY=false\/bx=false/\bY=true\/bx=false/\bY=false:=by
     rcases hu with⟨_,rfl,_⟩|⟨_,rfl⟩<;>rcases hv with⟨_,rfl,_⟩|⟨_,rfl⟩<;>first|(exfalso;omega)|simp
    clear hu hv hboth HLA HLD HA0 HD0 hs ht hX hY hg hk tx ty lx ly ox oy lg hk1
    have f3:=HK3.out.frozen
    have lt3:=HK3.out.lt
    rcases hbb with⟨rfl,rfl⟩|⟨rfl,rfl⟩|⟨rfl,rfl⟩
    all_goals
     go_wp2_with fail
     refine ZA.out.mono ?_
     rintro e w3' ⟨rfl,hb⟩
     have g1:=zac hb g1
     have g2:=zac hb g2
     have hb3':=zab hb2 hb
     clear hb
     go_wp2_with fail
     refine(ZB.out _ hb3').mono ?_
     rintro e w3 ⟨rfl,hb⟩
     have g1:=zac hb g1
     have g2:=zac hb g2
     have hb3:=zab hb3' hb
     clear hb hb3'
     have hb3:=hb3.drew
     have g1:w3.drew.cell? ⟨p,0,none⟩=some (.slice A n c):=g1
     have g2:w3.drew.cell? ⟨p+1,0,none⟩=some (.slice D m d):=g2
     go_wp2_with fail
     go_region_held3 (fun w' => w'.cell? ⟨p,0,none⟩ = some (.slice A n c) ∧ w'.cell? ⟨p + 1,0,none⟩ = some (.slice D m d))
      (first|(exact⟨g1,g2⟩)|(go_split_ands;(repeat' apply And.intro);all_goals (first|with_reducible assumption|exact zac hbx (by with_reducible assumption)|exact zag _ (by show p≠p+1+1;omega) (by with_reducible assumption)|exact zag _ (by show p+1≠p+1+1;omega) (by with_reducible assumption))))
      (first
        |(go_at_call 198;(with_reducible refine(PA.out _ hb3).mono ?_);rintro e w4 ⟨A4,n4,c4,rfl,hw4,hbx,_⟩;have hb4:=zab hb3 hbx)
        |(go_at_call 198;(with_reducible refine(PB.out _ hb4).mono ?_);rintro e w5 ⟨A5,n5,c5,rfl,hw5,hbx,_⟩;have hb5:=zab hb4 hbx;have hw4:=hw4.below hbx)
        |(go_at_call 197;(with_reducible refine(OO.out w5 A4 A5 n4 n5 c4 c5 hw4 hw5 hb5).mono ?_);rintro e w6 ⟨A6,n6,c6,rfl,hw6,hbx⟩;have hb6:=zab hb5 hbx)
        |(go_at_call 199;(with_reducible refine(TA.out _ hb6).mono ?_);rintro e w7 ⟨rfl,hbx⟩;have hb7:=zab hb6 hbx;have hw6:=hw6.below hbx)
        |(go_at_call 199;(with_reducible refine(TB.out _ hb7).mono ?_);rintro e w8 ⟨rfl,hbx⟩;have hb8:=zab hb7 hbx;have hw6:=hw6.below hbx)
        |(go_at_call 196;(with_reducible refine(RA.out w8 A6 n6 c6 hw6).mono ?_);rintro e w9 ⟨A9,n9,c9,rfl,hw9,hbx,_⟩;have hb9:=zab hb8 hbx;have k9:=HK3.out.keep hb9;have f9:=k9.frozen;have e9:=k9.cell))
     clear f9 e9 k9 hbx hw6 hw5 hw4 hb8 hb7 hb6 hb5 hb4
     have k5:=HK3.out.keep (w':=w9) hb9
     have f5:=k5.frozen
     have e5:=k5.cell
     have r5:=(k5.set_ (.slice A9 n9 c9)).cell
     have HE:Hid (zdb w G (.returned (.agg #[.slice A9 n9 c9])) (w9.setCell ⟨p+1+1,0,none⟩ (.slice A9 n9 c9))):=⟨_,_,_,rfl,zao hw9 k5 _,(zab HB.out hb9).setCell (p:=⟨p+1+1,0,none⟩) (by show w.heap.size<=p+1+1;omega) _⟩
     clear k5 hw9 hb9
     go_wp2
     refine bodyPost_ret (v:=.agg #[.slice A9 n9 c9]) (by simp [results,Tryz.results159,go_sem,r5]) rfl ?_
     exact HE.out
