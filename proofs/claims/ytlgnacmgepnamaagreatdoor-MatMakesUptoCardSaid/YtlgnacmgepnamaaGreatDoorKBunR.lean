/- What this claim leans on. -/
import Derived.Test.YtlgnacmgepnamaaGreatDoorKP4C
namespace Go.Proofs.YtlgnacmgepnamaaGreatDoor
open Go Go.RowKit
set_option maxHeartbeats 16000000
set_option maxRecDepth 100000
set_option linter.unusedVariables false
theorem zgS (A:oA9)(n c:Nat)(l:List Nat)(w:World)(hA:zas w w.heap.size 1 A n (zat .i64 l))(hl:Dgs 65536 l)(hc:n<=c)(hc':c<=9223372036854775807)(hn:n<=1099511627776):
  Calls Tryz.prog 122 #[.slice A n c] w (zbw w (dv 65536 l)):=by
 obtain⟨i0,hi0,hz0,hz1,hz2⟩:=info_parts zid
 have HL:=lh9 hA.len_
 go_enter Tryz.func122,Tryz.ntmps122
 go_wp2
 go_loop [3] (λs=>∃m:Nat,m<=n/\s=.int .i64 m/\Hid (dv 65536 (l.take m)=dv 65536 l)) (λs=>(intOf s).toNat)
 case atStart=>exact⟨n,Nat.le_refl _,rfl,by show _=_;rw [List.take_of_length_le (by have:=HL.out;omega)]⟩
 case round=>
  obtain⟨m,hm,rfl,H⟩:=hrel
  have done:(m=0\/l.getD (m - 1) 0≠0)->∀w' v,w'.ownsRow w.heap.size 3 1 v (0+m) ([]++zat .i64 (l.take m))->Below w.heap.size w w'->zbw w (dv 65536 l) (.returned v) w':=by
   intro hz w' v ho hb
   have e:=znU (by decide) hl (by have:=HL.out;omega) H.out hz
   unfold zbw
   have e2:(dg 65536 (dv 65536 l)).length=0+m:=by rw [<-e,List.length_take];have:=HL.out;omega
   rw [e2,<-e]
   exact zev (by simpa using ho) hb
  have DN:=lh9 done
  clear done
  have hsrc:=hA.take_ hm
  rw [zjO] at hsrc
  by_cases hm0:m=0
  ·subst hm0
   go_wp2_with (at_builtin;refine zcQ _ rfl (.tmp 19) (.tmp 22) 63 rfl w.heap.size 3 i0 (.int .i64 0) 1 8 Tryz.underlying63 hi0 hz0 hz1 hz2 rfl (by decide) (.slice none 0 0) 0 [] rfl (World.ownsRow_nil _ _ _ _) _ A 0 c (zat .i64 (l.take 0)) rfl hsrc (zdN _ _) (by unfold maxLen;omega) (by omega) (Nat.le_refl _) ?_;intro v' w1 hown' hgrow hat)
   have hb':Below w.heap.size w w1:=(Below.refl _ _).grown hgrow (Nat.le_refl _) (λg hg=>by simp [Value.ownBlock] at hg)
   have G:=DN.out (by first|exact .inl rfl|simp) w1 v' hown' hb'
   clear hown' hgrow hat hb' hsrc
   go_wp2
   go_ret
   exact G
  ·obtain⟨j,rfl⟩:∃j,m=j+1:=⟨m - 1,by omega⟩
   obtain⟨ad,rfl,hadb,hcell⟩:=zbn hA (k:=j) (by omega)
   by_cases hz:l.getD j 0=0
   ·have HM:=lh9 ((zjk 65536 (l:=l) (n:=j) (by have:=HL.out;omega) hz).symm.trans H.out)
    rw [hz] at hcell
    clear hz hsrc
    go_wp2
    go_round
    case rel=>exact⟨j,by omega,by go_num,HM⟩
    case measure=>simp only [intOf];omega
   ·have hz':(((l.getD j 0:Nat):Int)==0)=false:=beq_eq_false_iff_ne.2 (by omega)
    obtain⟨d,hd⟩:∃d,l.getD j 0=d:=⟨_,rfl⟩
    have HZ:=lh9 hz
    rw [hd] at hcell hz'
    clear hz hd
    go_wp2_with (at_builtin;refine zcQ _ rfl (.tmp 19) (.tmp 22) 63 rfl w.heap.size 3 i0 (.int .i64 0) 1 8 Tryz.underlying63 hi0 hz0 hz1 hz2 rfl (by decide) (.slice none 0 0) 0 [] rfl (World.ownsRow_nil _ _ _ _) _ (some ad) (j+1) c (zat .i64 (l.take (j+1))) rfl hsrc (zdN _ _) (by unfold maxLen;omega) (by omega) (Nat.le_refl _) ?_;intro v' w1 hown' hgrow hat)
    have hb':Below w.heap.size w w1:=(Below.refl _ _).grown hgrow (Nat.le_refl _) (λg hg=>by simp [Value.ownBlock] at hg)
    have G:=DN.out (.inr HZ.out) w1 v' hown' hb'
    clear hown' hgrow hat hb' hsrc
    go_wp2
    go_ret
    exact G
theorem zdj {base:Nat}{t:TypeId}{v:Value}{n:Nat}{l:List Nat}{w:World}(ho:w.ownsRow base t 1 v n (zat .i64 l))(hl:Dgs 65536 l)(hn:n<=1099511627776):
  Calls Tryz.prog 122 #[v] w (zbw w (dv 65536 l)):=by
 obtain⟨A1,c1,rfl,hr1,hc1,hc1',_⟩:=zis ho
 exact zgS A1 n c1 l w hr1 hl hc1 hc1' hn
theorem ziX (A:oA9)(n c k:Nat)(l:List Nat)(B:Nat)(w:World)(hA:zas w B 1 A n (zat .i64 l))(hk:k<n)(hn:n<=1099511627776):
  Calls Tryz.prog 148 #[.slice A n c,.int .i64 k] w λe w'=>e=.returned (.int .i64 (l.getD k 0:Nat))/\w=w':=by
 obtain⟨ad,rfl,hadb,hcell⟩:=zbn hA hk
 obtain⟨d,hd⟩:∃d,l.getD k 0=d:=⟨_,rfl⟩
 rw [hd] at hcell⊢
 clear hd
 go_enter Tryz.func148,Tryz.ntmps148
 go_wp2
 go_ret
 exact⟨rfl,rfl⟩
theorem ziB (A:oA9)(n c:Nat)(k:Int)(w:World)(hk:k<0\/(n:Int)<=k):
  Calls Tryz.prog 148 #[.slice A n c,.int .i64 k] w λe w'=>e=.returned (.int .i64 0)/\w=w':=by
 by_cases h:k<0
 ·go_enter Tryz.func148,Tryz.ntmps148
  go_wp2
  go_ret
  exact⟨rfl,rfl⟩
 ·have h2:(n:Int)<=k:=by omega
  clear hk
  go_enter Tryz.func148,Tryz.ntmps148
  go_wp2
  go_ret
  exact⟨rfl,rfl⟩
theorem zcB (A:oA9)(n c:Nat)(k:Nat)(l:List Nat)(B:Nat)(w:World)(hA:zas w B 1 A n (zat .i64 l))(hn:n<=1099511627776):
  Calls Tryz.prog 148 #[.slice A n c,.int .i64 k] w λe w'=>e=.returned (.int .i64 (l.getD k 0:Nat))/\w=w':=by
 by_cases hk:k<n
 ·exact ziX A n c k l B w hA hk hn
 ·have e:l.getD k 0=0:=by rw [List.getD_eq_getElem?_getD,List.getElem?_eq_none (by have:=hA.len_;omega)];rfl
  rw [e]
  exact ziB A n c k w (.inr (by omega))
theorem znD (k:Nat)(hk:k<=15)(w:World):
  Calls Tryz.prog 175 #[.int .i64 k] w λe w'=>e=.returned (.int .i64 (2^k:Nat))/\w=w':=by
 go_enter Tryz.func175,Tryz.ntmps175
 go_wp2
 go_loop [3,4] (λs i=>∃j:Nat,j<=k/\i=.int .i64 j/\s=.int .i64 (2^j:Nat)) (λ_ i=>k - (intOf i).toNat)
 case atStart=>exact⟨0,Nat.zero_le _,rfl,rfl⟩
 case round=>
  obtain⟨j,hj,rfl,rfl⟩:=hrel
  have hp:2^j<=2^15:=Nat.pow_le_pow_right (by decide) (by omega)
  have HS:Hid (2^(j+1)=2*2^j):=by show _=_;rw [Nat.pow_succ,Nat.mul_comm]
  obtain⟨p,he⟩:∃p,2^j=p:=⟨_,rfl⟩
  by_cases h:j<k
  ·rw [he] at hp HS⊢
   clear he
   have hp':p<=32768:=by simpa using hp
   go_wp2
   go_round
   case rel=>exact⟨j+1,by omega,by go_num,by rw [HS.out];go_num⟩
   case measure=>simp only [intOf];omega
  ·have hjk:j=k:=by omega
   subst hjk
   clear he
   go_wp2
   go_ret
   exact⟨rfl,rfl⟩
theorem zhj (k:Nat)(w:World):Calls Tryz.prog 175 #[.int .i64 ((k:Int)%16)] w λe w'=>e=.returned (.int .i64 (2^(k%16):Nat))/\w=w':=by
 have h:=znD (k%16) (by omega) w
 rw [show((k%16:Nat):Int)=(k:Int)%16 from by omega] at h
 exact h
theorem zgz (x y:Nat)(A D:oA9)(n m c d:Nat)(w:World)(hA:zak w x A n c)(hD:zak w y D m d)(hn:n<=1099511627776)(hm:m<=1099511627776):
  Calls Tryz.prog 94 #[.slice A n c,.slice D m d] w λe w'=>e=.returned (.int .i64 (zbh x y))/\∃q,w'=w.drewN q:=by
 have hln:=hA.len
 have hlm:=hD.len
 obtain⟨hA,_,_⟩:=hA
 obtain⟨hD,_,_⟩:=hD
 by_cases hlt:n<m
 ·have C:=lh9 (zcw (zfQ (b:=65536) (by decide) (x:=x) (y:=y) (by omega)))
  clear hln hlm
  go_enter Tryz.func94,Tryz.ntmps94
  go_wp2
  go_ret
  exact⟨by rw [C.out];rfl,0,rfl⟩
 by_cases hgt:m<n
 ·have C:=lh9 (zcv (zfQ (b:=65536) (by decide) (x:=y) (y:=x) (by omega)))
  clear hln hlm
  go_enter Tryz.func94,Tryz.ntmps94
  go_wp2
  go_ret
  exact⟨by rw [C.out];rfl,0,rfl⟩
 have hnm:m=n:=by omega
 subst hnm
 have H0:Hid (x / 65536^m=y / 65536^m):=by
  show _=_
  rw [Nat.div_eq_of_lt (by rw [hln];exact zaS (by decide) x),Nat.div_eq_of_lt (by rw [hlm];exact zaS (by decide) y)]
 clear hln hlm hlt hgt
 go_enter Tryz.func94,Tryz.ntmps94
 go_wp2
 go_loopg [5] (m+1) (λg i wr=>∃(k q:Nat),k<=m/\i=.int .i64 ((k:Int) - 1)/\Hid (x / 65536^k=y / 65536^k)/\k<g/\wr=w.drewN q)
 case atStart=>exact⟨m,0,Nat.le_refl _,rfl,H0,Nat.lt_succ_self _,rfl⟩
 case round=>
  obtain⟨k,q,hk,rfl,H,hg,rfl⟩:=hrel
  by_cases hk0:k=0
  ·subst hk0
   have C:=lh9 (zdx (x:=x) (y:=y) (by have:=H.out;simpa using this))
   go_wp2
   go_ret
   exact⟨by rw [C.out];rfl,q,rfl⟩
  ·obtain⟨j,rfl⟩:∃j,k=j+1:=⟨k - 1,by omega⟩
   obtain⟨ad,rfl,hadb,h1⟩:=zbn hA (k:=j) (by omega)
   obtain⟨ae,rfl,haeb,h2⟩:=zbn hD (k:=j) (by omega)
   rw [zfB] at h1 h2
   have L1:=lh9 (λh=>zhN (b:=65536) H.out h)
   have L2:=lh9 (λh=>zhN (b:=65536) H.out.symm h)
   have L3:=lh9 (λh=>cmp_eq (b:=65536) H.out h)
   obtain⟨p,hp⟩:∃p,x / 65536^j%65536=p:=⟨_,rfl⟩
   obtain⟨r,hr⟩:∃p,y / 65536^j%65536=p:=⟨_,rfl⟩
   rw [hp,hr] at L1 L2 L3
   rw [hp] at h1
   rw [hr] at h2
   clear hp hr
   rcases Nat.lt_trichotomy p r with h|h|h
   ·have C:=lh9 (zcw (L1.out h))
    have e1:decide ((p:Int)<r)=true:=by simpa using h
    go_wp2
    go_quiet (fail)
    go_wp2
    go_ret
    exact⟨by rw [C.out];rfl,by simp only [World.drewN_drewN];exact⟨_,rfl⟩⟩
   ·have M:=lh9 (L3.out h)
    subst h
    clear L1 L2 L3
    go_wp2
    go_quiet (fail)
    go_wp2
    go_quiet (fail)
    go_wp2
    go_roundg (j+1)
    case measure=>omega
    case rel=>exact⟨j,_,by omega,by go_num,M,by omega,rfl⟩
   ·have C:=lh9 (zcv (L2.out h))
    have e1:decide ((p:Int)<r)=false:=by simp;omega
    have e2:decide ((r:Int)<p)=true:=by simpa using h
    go_wp2
    go_quiet (fail)
    go_wp2
    go_quiet (fail)
    go_wp2
    go_ret
    exact⟨by rw [C.out];rfl,by simp only [World.drewN_drewN];exact⟨_,rfl⟩⟩
theorem ref2_of (A:oA9)(n c:Nat)(l:List Nat)(w:World)(hA:zas w w.heap.size 1 A n (zat .u64 l))(hl:Dgs 18446744073709551616 l)(hn:n<=68719476736):
  Calls Tryz.prog 93 #[.slice A n c] w (zbw w (dv 18446744073709551616 l)):=by
 obtain⟨i0,hi0,hz0,hz1,hz2⟩:=info_parts zid
 have HL:=lh9 hA.len_
 go_enter Tryz.func93,Tryz.ntmps93
 go_wp2
 go_loopg [3,4,5,6] (n + 1) (fun g v i _ _ wr => ∃ (k : Nat) (D : List Nat),k ≤ n ∧ n < g + k ∧ i = .int .i64 k ∧ D.length = 4 * k ∧ Dgs 65536 D ∧ dv 65536 D = dv 18446744073709551616 (l.take k) ∧
   wr.ownsRow w.heap.size 3 1 v (4*k) (zat .i64 D)/\Below w.heap.size w wr)
 case atStart=>exact⟨0,[],Nat.zero_le _,by omega,rfl,rfl,by intro d hd;simp at hd,by simp [dv],World.ownsRow_nil _ _ _ _,Below.refl _ _⟩
 case round=>
  obtain⟨k,D,hk,hg,rfl,hlen,hdg,hv,hown,hbl⟩:=hrel
  by_cases hlt:k<n
  ·obtain⟨ad,rfl,hadb,hc0⟩:=zbn hA hlt
   have hc1:wr.cell? (ad.add k)=some (.int .u64 (l.getD k 0:Nat)):=(hbl.cell (by rw [zao];exact hadb)).trans hc0
   have hw:=hl.getD (by decide) k
   have HT:=lh9 (zaG 18446744073709551616 l k)
   obtain⟨x,hx⟩:∃x,l.getD k 0=x:=⟨_,rfl⟩
   rw [hx] at hc1 hw HT
   have HV:=lh9 hv
   have HLEN:=lh9 hlen
   have HDG:=lh9 hdg
   clear hc0 hx hv hlen hdg
   go_wp2
   go_loopg [3,5,6] 5 (fun g v s i wq => ∃ (j : Nat) (E : List Nat),j ≤ 4 ∧ 4 < g + j ∧ i = .int .i64 j ∧ s = .int .u64 ((x / 65536 ^ j : Nat) : Int) ∧ E.length = 4 * k + j ∧ Dgs 65536 E ∧
     dv 65536 E=dv 18446744073709551616 (l.take k)+18446744073709551616^k*(x%65536^j)/\wq.ownsRow w.heap.size 3 1 v (4*k+j) (zat .i64 E)/\Below w.heap.size w wq)
   case atStart=>exact⟨0,D,Nat.zero_le _,by omega,rfl,by simp,HLEN.out,HDG.out,by rw [HV.out];simp [Nat.mod_one],hown,hbl⟩
   case round=>
    obtain⟨j,E,hj,hgj,rfl,rfl,hlenE,hdgE,hvE,hownE,hblE⟩:=hrel
    by_cases hj4:j<4
    ·have HS:=lh9 (of_step (i:=k) hlenE hvE)
     have hxk:x / 65536^j<18446744073709551616:=Nat.lt_of_le_of_lt (Nat.div_le_self _ _) hw
     have HD:Hid (x / 65536^(j+1)=x / 65536^j / 65536):=by show _=_;rw [Nat.pow_succ,<-Nat.div_div_eq_div_mul]
     obtain⟨y,hy⟩:∃y,x / 65536^j=y:=⟨_,rfl⟩
     rw [hy] at HS hxk HD⊢
     have HLE:=lh9 hlenE
     have HDE:=lh9 hdgE
     clear hy hlenE hdgE hvE
     go_wp2_with (at_builtin;refine wpList_append_own _ rfl _ _ 63 rfl w.heap.size 3 i0 (.int .i64 0) 1 8 Tryz.underlying63 hi0 hz0 hz1 hz2 rfl (by decide) _ _ _ rfl (hownE.alloc _) ⟨wr.heap.size,0,none⟩ 1 1 [.int .i64 ((y:Int)%65536)] rfl rfl (zbb _ _ _) (zdJ _ _) (by unfold maxLen;omega) (by omega) (by have:=hblE.size;simp;omega) ?_;intro v' w1 hown' hgrow _)
     have hb':Below w.heap.size w w1:=(hblE.alloc hblE.size _).grown hgrow (by have:=hblE.size;simp;omega) (λg hg=>(hownE.lt g hg).1)
     have hown2:w1.ownsRow w.heap.size 3 1 v' (4*k+(j+1)) (zat .i64 (E++[y%65536])):=by
      rw [zba];simpa [zat,Nat.add_assoc] using hown'
     clear hown' hgrow hownE hblE
     go_wp2
     go_roundg (gk - 1)
     case measure=>omega
     case rel=>exact⟨j+1,_,by omega,by omega,by go_num,by rw [HD.out];go_num,by simp [HLE.out,Nat.add_assoc],HDE.out.append (by intro d hd;simp at hd;subst hd;exact Nat.mod_lt _ (by decide)),HS.out,hown2,hb'⟩
    ·have hj:j=4:=by omega
     subst hj
     have HF:Hid (dv 65536 E=dv 18446744073709551616 (l.take (k+1))):=by
      show _=_
      rw [hvE,HT.out,show x%65536^4=x from Nat.mod_eq_of_lt (by omega)]
     have HLE:=lh9 hlenE
     have HDE:=lh9 hdgE
     clear hvE hlenE hdgE
     go_wp2
     go_roundg (n - k)
     case measure=>omega
     case rel=>exact⟨k+1,E,by omega,by omega,by go_num,by rw [HLE.out];omega,HDE.out,HF.out,hownE,hblE⟩
  ·have hkn:k=n:=by omega
   subst hkn
   rw [List.take_of_length_le (by have:=HL.out;omega)] at hv
   obtain⟨A1,c1,rfl,hr1,hc1,hc1',_⟩:=zis hown
   have T:=zgS A1 (4*k) c1 D wr hr1 hdg hc1 hc1' (by omega)
   rw [hv] at T
   have HT:=lh9 T
   clear T hv hdg hlen hown hr1
   go_wp2_with fail
   refine HT.out.mono ?_
   intro e w2 hg2
   have hg3:=hg2.from_ hbl
   obtain⟨A2,n2,c2,rfl,hh2,hb2⟩:=hg2.elim
   clear hg2 hh2 hb2
   go_wp2_with fail
   go_ret
   exact hg3
theorem ziC (x:Nat)(A:oA9)(n c:Nat)(w:World)(hA:zak w x A n c)(hn:n<=1099511627776):
  Calls Tryz.prog 125 #[.slice A n c] w (zeM w x):=by
 obtain⟨i0,hi0,hz0,hz1,hz2⟩:=info_parts zeT
 have HLN:=lh9 hA.len
 have hR:=hA.1
 go_enter Tryz.func125,Tryz.ntmps125
 go_wp2
 go_loopg [3,4,5,6] (n+1) (λg v i _ _ wr=>∃(j:Nat) (L:List Nat),(j=0\/4*(j - 1)<n)/\n<g+j/\i=.int .i64 (4*(j:Int))/\zdw x j L/\wr.ownsRow w.heap.size 121 1 v j (zat .u64 L)/\Below w.heap.size w wr)
 case atStart=>exact⟨0,[],.inl rfl,by omega,rfl,zdw.start x,World.ownsRow_nil _ _ _ _,Below.refl _ _⟩
 case round=>
  obtain⟨j,L,hj,hg,rfl,hat,hown,hbl⟩:=hrel
  by_cases hlt:4*j<n
  ·have HS:=lh9 hat.step
   have hR':=hR.below hbl
   have DG:=lh9 (fun(k:Nat)=>zcB A n c k _ _ wr hR' hn)
   clear hat hR'
   have hj40:j<=1099511627776:=by omega
   have hb4:decide (4*(j:Int)<(n:Int))=true:=by simp;omega
   go_wp2
   go_loopg [5,6] 5 (λg s i wq=>∃m:Nat,m<=4/\m<g/\i=.int .i64 ((m:Int) - 1)/\s=.int .u64 ((x / 65536^(4*j+m)%65536^(4 - m):Nat):Int)/\wq=wr)
   case atStart=>exact⟨4,by omega,by omega,rfl,by simp [Nat.mod_one],rfl⟩
   case round=>
    obtain⟨m,hm,hgm,rfl,rfl,rfl⟩:=hrel
    by_cases hm0:m=0
    ·subst hm0
     obtain⟨y,hy⟩:∃y,x / 65536^(4*j)%65536^4=y:=⟨_,rfl⟩
     simp only [Nat.add_zero,Nat.sub_zero,hy]
     rw [hy] at HS
     clear hy
     go_wp2_with (at_builtin;refine wpList_append_own _ rfl _ _ 42 rfl w.heap.size 121 i0 (.int .u64 0) 1 8 Tryz.underlying42 hi0 hz0 hz1 hz2 rfl (by decide) _ _ _ rfl (hown.alloc _) ⟨wr.heap.size,0,none⟩ 1 1 [.int .u64 (y:Int)] rfl rfl (zbb _ _ _) (zdJ _ _) (by unfold maxLen;omega) (by omega) (by have:=hbl.size;simp;omega) ?_;intro v' w1 hown' hgrow _)
     have hb':Below w.heap.size w w1:=(hbl.alloc hbl.size _).grown hgrow (by have:=hbl.size;simp;omega) (λg hg=>(hown.lt g hg).1)
     have hown2:w1.ownsRow w.heap.size 121 1 v' (j+1) (zat .u64 (L++[y])):=by
      rw [zba];simpa [zat] using hown'
     clear hown' hgrow hown hbl
     go_wp2
     go_roundg (n - j)
     case measure=>omega
     case rel=>exact⟨j+1,_,.inr (by omega),by omega,by go_num,HS.out,hown2,hb'⟩
    ·obtain⟨q,rfl⟩:∃q,m=q+1:=⟨m - 1,by omega⟩
     have hst:=zpU x (4*j+q) (4 - (q+1))
     rw [show 4 - (q+1)+1=4 - q from by omega] at hst
     have hst2:x / 65536^(4*j+(q+1))%65536^(4 - (q+1))*65536+x / 65536^(4*j+q)%65536=x / 65536^(4*j+q)%65536^(4 - q):=hst
     have D1:=DG.out (4*j+q)
     rw [zfB] at D1
     have hb1:x / 65536^(4*j+(q+1))%65536^(4 - (q+1))<65536^3:=Nat.lt_of_lt_of_le (Nat.mod_lt _ (Nat.pow_pos (by decide))) (Nat.pow_le_pow_right (by decide) (by omega))
     have hb2:x / 65536^(4*j+q)%65536<65536:=Nat.mod_lt _ (by decide)
     obtain⟨a,ha⟩:∃a,x / 65536^(4*j+(q+1))%65536^(4 - (q+1))=a:=⟨_,rfl⟩
     obtain⟨b,hb⟩:∃a,x / 65536^(4*j+q)%65536=a:=⟨_,rfl⟩
     rw [ha] at hst2 hb1⊢
     rw [hb] at hst2 hb2 D1
     have HST:=lh9 hst2
     rw [show((4*j+q:Nat):Int)=4*(j:Int)+(q:Int) from by omega] at D1
     have HD1:=lh9 D1
     have hb1':a<281474976710656:=by simpa using hb1
     clear hst hst2 ha hb D1 hb1 HS
     go_wp2_with fail
     refine HD1.out.mono ?_
     rintro e w' ⟨rfl,rfl⟩
     go_wp2_with fail
     go_roundg (q+1)
     case measure=>omega
     case rel=>exact⟨q,by omega,by omega,by go_num,by rw [<-HST.out];go_num,rfl⟩
  ·have e:=hat.done (by have:=HLN.out;omega) (by have:=HLN.out;omega)
   have HE:Hid (j=(dg 18446744073709551616 x).length):=by show _=_;rw [<-e,hat.len]
   have HG:Hid (∀w' v,w'.ownsRow w.heap.size 121 1 v j (zat .u64 L)->Below w.heap.size w w'->zeM w x (.returned v) w'):=by
    intro w' v ho hb
    unfold zeM
    rw [<-e,hat.len]
    exact zev ho hb
   clear e hat
   go_wp2
   go_ret
   exact HG.out _ _ hown hbl
theorem ref2_is (x:Nat)(A D:oA9)(n c m d:Nat)(w:World)(hA:zak w x A n c)(hn:n<=1099511627776)(hD:zas w w.heap.size 1 D m (zat .u64 (dg 18446744073709551616 x)))(hm:m<=1099511627776):
  Calls Tryz.prog 124 #[.slice A n c,.slice D m d] w λe w'=>e=.returned (.bool true)/\Below w.heap.size w w':=by
 have W1:=ziC x A n c w hA hn
 unfold zeM at W1
 obtain⟨L,hL⟩:∃L,dg 18446744073709551616 x=L:=⟨_,rfl⟩
 rw [hL] at W1 hD
 have hlen:=hD.len_
 rw [hlen] at W1
 have HW:=lh9 W1
 clear W1 hlen hL
 go_enter Tryz.func124,Tryz.ntmps124
 go_wp2_with fail
 refine HW.out.mono ?_
 rintro e w1 ⟨A1,c1,rfl,hr1,hc1,⟨_,_⟩,hb1⟩
 have hD1:=hD.below hb1
 go_wp2_with fail
 go_loopg [6] (m+1) (λg i wr=>∃(k q:Nat),k<=m/\m<g+k/\i=.int .i64 k/\wr=w1.drewN q)
 case atStart=>exact⟨0,0,Nat.zero_le _,by omega,rfl,rfl⟩
 case round=>
  obtain⟨k,q,hk,hg,rfl,rfl⟩:=hrel
  by_cases hlt:k<m
  ·obtain⟨ad,rfl,hadb,h1⟩:=zbn hr1 (k:=k) hlt
   obtain⟨ae,rfl,haeb,h2⟩:=zbn hD1 (k:=k) hlt
   obtain⟨p,hp⟩:∃p,L.getD k 0=p:=⟨_,rfl⟩
   rw [hp] at h1 h2
   clear hp
   go_wp2
   go_quiet (fail)
   go_wp2
   go_roundg (m - k)
   case measure=>omega
   case rel=>exact⟨k+1,_,by omega,by omega,by go_num,rfl⟩
  ·go_wp2
   go_ret
   exact⟨rfl,zaW hb1 q⟩
theorem ref2_add (x y:Nat)(A D:oA9)(n m c d:Nat)(w:World)(hA:zak w x A n c)(hD:zak w y D m d)(hn:n<=549755813888)(hm:m<=549755813888):
  Calls Tryz.prog 162 #[.slice A n c,.slice D m d] w (zbw w (x+y)):=by
 obtain⟨i0,hi0,hz0,hz1,hz2⟩:=info_parts zid
 have HLN:=lh9 hA.len
 have HLM:=lh9 hD.len
 have hR:=hA.1
 have hS:=hD.1
 go_enter Tryz.func162,Tryz.ntmps162
 go_wp2
 go_loopg [5,6,7,8] (n + m + 2) (fun g v s i _ wr => ∃ (k cc : Nat) (out : List Nat),k ≤ n + m + 1 ∧ n + m + 1 < g + k ∧ (k = 0 ∨ k ≤ n ∨ k ≤ m ∨ (k ≤ n + 1 ∨ k ≤ m + 1) ∧ cc = 0) ∧ i = .int .i64 k ∧ s = .int .i64 cc ∧ zgb x y k out cc ∧
   wr.ownsRow w.heap.size 3 1 v k (zat .i64 out)/\Below w.heap.size w wr)
 case atStart=>exact⟨0,0,[],by omega,by omega,.inl rfl,rfl,rfl,zgb.start x y,World.ownsRow_nil _ _ _ _,Below.refl _ _⟩
 case round=>
  obtain⟨k,cc,out,hk,hg,hkk,rfl,rfl,hat,hown,hbl⟩:=hrel
  have hcc:=hat.carry
  by_cases hgo:k<n\/k<m\/0<cc
  ·have D1:=zcB A n c k _ _ wr (hR.below hbl) (by omega)
   have D2:=zcB D m d k _ _ wr (hS.below hbl) (by omega)
   rw [zfB] at D1 D2
   have ha1:x / 65536^k%65536<65536:=Nat.mod_lt _ (by decide)
   have hb1:y / 65536^k%65536<65536:=Nat.mod_lt _ (by decide)
   have hst:=hat.step rfl
   have hz2':k=n/\k=m->cc=1:=by omega
   have hgr:n<=k->m<=k->cc=1:=by omega
   have HX:=lh9 (fun(h:n<=k) (h':m<=k)=>(show x / 65536^k%65536=0/\y / 65536^k%65536=0 from by
    refine⟨?_,?_⟩
    ·rw [Nat.div_eq_of_lt (Nat.lt_of_lt_of_le (zaS (by decide) x) (Nat.pow_le_pow_right (by decide) (by have:=HLN.out;omega)))]
    ·rw [Nat.div_eq_of_lt (Nat.lt_of_lt_of_le (zaS (by decide) y) (Nat.pow_le_pow_right (by decide) (by have:=HLM.out;omega)))]))
   obtain⟨a,ha⟩:∃a,x / 65536^k%65536=a:=⟨_,rfl⟩
   obtain⟨b,hb⟩:∃a,y / 65536^k%65536=a:=⟨_,rfl⟩
   rw [ha] at D1 ha1 hst HX
   rw [hb] at D2 hb1 hst HX
   have HD1:=lh9 D1
   have HD2:=lh9 D2
   have HST:=lh9 hst
   have HNX:Hid (k+1<=n+m+1/\(k+1=0\/k+1<=n\/k+1<=m\/(k+1<=n+1\/k+1<=m+1)/\(a+b+cc) / 65536=0)):=by
    refine⟨by omega,?_⟩
    by_cases h1:k<n
    ·exact .inr (.inl (by omega))
    ·by_cases h2:k<m
     ·exact .inr (.inr (.inl (by omega)))
     ·have:=HX.out (by omega) (by omega)
      exact .inr (.inr (.inr ⟨by omega,by omega⟩))
   clear D1 D2 hst ha hb hat HX hz2' hgr hkk
   go_wp2_with fail
   all_goals
    refine HD1.out.mono ?_
    rintro e w' ⟨rfl,rfl⟩
    go_wp2_with fail
    refine HD2.out.mono ?_
    rintro e w' ⟨rfl,rfl⟩
    go_wp2_with (at_builtin;refine wpList_append_own _ rfl _ _ 63 rfl w.heap.size 3 i0 (.int .i64 0) 1 8 Tryz.underlying63 hi0 hz0 hz1 hz2 rfl (by decide) _ _ _ rfl (hown.alloc _) ⟨wr.heap.size,0,none⟩ 1 1 [.int .i64 (((a:Int)+(b:Int)+(cc:Int))%65536)] rfl rfl (zbb _ _ _) (zdJ _ _) (by unfold maxLen;omega) (by omega) (by have:=hbl.size;simp;omega) ?_;intro v' w1 hown' hgrow _)
    have hb':Below w.heap.size w w1:=(hbl.alloc hbl.size _).grown hgrow (by have:=hbl.size;simp;omega) (λg hg=>(hown.lt g hg).1)
    have hown2:w1.ownsRow w.heap.size 3 1 v' (k+1) (zat .i64 (out++[(a+b+cc)%65536])):=by
     rw [zba];simpa [zat] using hown'
    clear hown' hgrow hown hbl
    go_wp2
    go_roundg (n+m+1 - k)
    case measure=>omega
    case rel=>exact⟨k+1,_,_,HNX.out.1,by omega,HNX.out.2,by go_num,by go_num,HST.out,hown2,hb'⟩
  ·have hcz:cc=0:=by omega
   subst hcz
   have e:=hat.done (by have:=HLN.out;omega) (by have:=HLM.out;omega)
   have T:=zdj hown hat.dgs (by omega)
   rw [e] at T
   have HT:=lh9 T
   clear e T hat hown hkk
   go_wp2_with fail
   refine HT.out.mono ?_
   intro e w2 hg2
   have hg3:=hg2.from_ hbl
   obtain⟨A2,n2,c2,rfl,hh2,hb2⟩:=hg2.elim
   clear hg2 hh2 hb2
   go_wp2_with fail
   go_ret
   exact hg3
theorem zfV (x mm a:Nat)(A:oA9)(n c:Nat)(w:World)(hA:zak w x A n c)(hn:n<=549755813888)(hmm:mm<65536)(ha:a<65536):
  Calls Tryz.prog 160 #[.slice A n c,.int .i64 mm,.int .i64 a] w (zbw w (x*mm+a)):=by
 obtain⟨i0,hi0,hz0,hz1,hz2⟩:=info_parts zid
 have HLN:=lh9 hA.len
 have hR:=hA.1
 go_enter Tryz.func160,Tryz.ntmps160
 go_wp2
 go_loopg [7,8,9,10] (n + 1) (fun g v s i _ wr => ∃ (k cc : Nat) (out : List Nat),k ≤ n ∧ n < g + k ∧ i = .int .i64 k ∧ s = .int .i64 cc ∧ zdv x mm a k out cc ∧
   wr.ownsRow w.heap.size 3 1 v k (zat .i64 out)/\Below w.heap.size w wr)
 case atStart=>exact⟨0,a,[],by omega,by omega,rfl,rfl,zdv.start x mm a ha,World.ownsRow_nil _ _ _ _,Below.refl _ _⟩
 case round=>
  obtain⟨k,cc,out,hk,hg,rfl,rfl,hat,hown,hbl⟩:=hrel
  have hcc:=hat.carry
  by_cases hlt:k<n
  ·obtain⟨ad,rfl,hadb,hc0⟩:=zbn hR hlt
   have hc1:wr.cell? (ad.add k)=some (.int .i64 ((dg 65536 x).getD k 0:Nat)):=(hbl.cell (by rw [zao];exact hadb)).trans hc0
   rw [zfB] at hc1
   have ha1:x / 65536^k%65536<65536:=Nat.mod_lt _ (by decide)
   have hst:=hat.step hmm rfl
   obtain⟨b,hb⟩:∃b,x / 65536^k%65536=b:=⟨_,rfl⟩
   rw [hb] at hc1 ha1 hst
   have hm1:b*mm<=65535*65535:=Nat.mul_le_mul (by omega) (by omega)
   have hm2:(b:Int)*(mm:Int)=((b*mm:Nat):Int):=(Int.natCast_mul b mm).symm
   have HM2:=lh9 hm2
   have hm3:(0:Int)<=(b:Int)*(mm:Int)/\(b:Int)*(mm:Int)<=4294836225:=by rw [hm2];omega
   obtain⟨hm30,hm31⟩:=hm3
   have HST:=lh9 hst
   clear hst hb hat hc0 hm1 hm2
   go_wp2_with (at_builtin;refine wpList_append_own _ rfl _ _ 63 rfl w.heap.size 3 i0 (.int .i64 0) 1 8 Tryz.underlying63 hi0 hz0 hz1 hz2 rfl (by decide) _ _ _ rfl (hown.alloc _) ⟨wr.heap.size,0,none⟩ 1 1 [.int .i64 (((b:Int)*(mm:Int)+(cc:Int))%65536)] rfl rfl (zbb _ _ _) (zdJ _ _) (by unfold maxLen;omega) (by omega) (by have:=hbl.size;simp;omega) ?_;intro v' w1 hown' hgrow _)
   have hb':Below w.heap.size w w1:=(hbl.alloc hbl.size _).grown hgrow (by have:=hbl.size;simp;omega) (λg hg=>(hown.lt g hg).1)
   have hown2:w1.ownsRow w.heap.size 3 1 v' (k+1) (zat .i64 (out++[(b*mm+cc)%65536])):=by
    rw [zba];simpa [zat] using hown'
   clear hown' hgrow hown hbl hc1
   go_wp2
   go_roundg (n - k)
   case measure=>omega
   case rel=>exact⟨k+1,_,_,by omega,by omega,by go_num,by rw [HM2.out];go_num,HST.out,hown2,hb'⟩
  ·have hkn:k=n:=by omega
   subst hkn
   have hd:=hat.done (by have:=HLN.out;omega)
   have HD:=lh9 hd
   clear hd hat
   go_wp2_with (first
    |(at_builtin;refine wpList_append_own _ rfl _ _ 63 rfl w.heap.size 3 i0 (.int .i64 0) 1 8 Tryz.underlying63 hi0 hz0 hz1 hz2 rfl (by decide) _ _ _ rfl (hown.alloc _) ⟨wr.heap.size,0,none⟩ 2 2 [.int .i64 ((cc:Int)%65536),.int .i64 ((cc:Int) / 65536)] rfl rfl (zlR _ _ _ _) (zpm _ _ _) (by unfold maxLen;omega) (by omega) (by have:=hbl.size;simp;omega) ?_;intro v' w1 hown' hgrow _)
    |fail)
   have hb':Below w.heap.size w w1:=(hbl.alloc hbl.size _).grown hgrow (by have:=hbl.size;simp;omega) (λg hg=>(hown.lt g hg).1)
   have hown2:w1.ownsRow w.heap.size 3 1 v' (k+2) (zat .i64 (out++[cc%65536,cc / 65536])):=by
    rw [zba];simpa [zat] using hown'
   have T:=zdj hown2 HD.out.2 (by omega)
   rw [HD.out.1] at T
   have HT:=lh9 T
   clear T hown2 hown' hgrow hown hbl
   go_wp2_with fail
   refine HT.out.mono ?_
   intro e w2 hg2
   have hg3:=hg2.from_ hb'
   obtain⟨A2,n2,c2,rfl,hh2,hb2⟩:=hg2.elim
   clear hg2 hh2 hb2
   go_wp2_with fail
   go_ret
   exact hg3
theorem zfd (x y:Nat)(hyx:y<=x)(A D:oA9)(n m c d:Nat)(w:World)(hA:zak w x A n c)(hD:zak w y D m d)(hn:n<=549755813888)(hm:m<=549755813888):
  Calls Tryz.prog 158 #[.slice A n c,.slice D m d] w (zbw w (x - y)):=by
 obtain⟨i0,hi0,hz0,hz1,hz2⟩:=info_parts zid
 have HLN:=lh9 hA.len
 have hR:=hA.1
 have hS:=hD.1
 go_enter Tryz.func158,Tryz.ntmps158
 go_wp2
 go_loopg [5,6,7,8] (n + 1) (fun g v s i _ wr => ∃ (k cc : Nat) (out : List Nat),k ≤ n ∧ n < g + k ∧ i = .int .i64 k ∧ s = .int .i64 cc ∧ zgg x y k out cc ∧
   wr.ownsRow w.heap.size 3 1 v k (zat .i64 out)/\Below w.heap.size w wr)
 case atStart=>exact⟨0,0,[],by omega,by omega,rfl,rfl,zgg.start x y,World.ownsRow_nil _ _ _ _,Below.refl _ _⟩
 case round=>
  obtain⟨k,cc,out,hk,hg,rfl,rfl,hat,hown,hbl⟩:=hrel
  have hcc:=hat.lack
  by_cases hlt:k<n
  ·obtain⟨ad,rfl,hadb,hc0⟩:=zbn hR hlt
   have hc1:wr.cell? (ad.add k)=some (.int .i64 ((dg 65536 x).getD k 0:Nat)):=(hbl.cell (by rw [zao];exact hadb)).trans hc0
   rw [zfB] at hc1
   have D2:=λq=>zcB D m d k _ _ (wr.drewN q) ((hS.below hbl).drewN q) (by omega)
   rw [zfB] at D2
   have ha1:x / 65536^k%65536<65536:=Nat.mod_lt _ (by decide)
   have hb1:y / 65536^k%65536<65536:=Nat.mod_lt _ (by decide)
   have hst:=fun(d c':Nat)=>hat.step (d:=d) (c':=c')
   obtain⟨a,ha⟩:∃b,x / 65536^k%65536=b:=⟨_,rfl⟩
   obtain⟨b,hb⟩:∃b,y / 65536^k%65536=b:=⟨_,rfl⟩
   rw [ha] at hc1 ha1 hst
   rw [hb] at D2 hb1 hst
   have HD2:=lh9 D2
   have HST:=lh9 hst
   clear D2 hst ha hb hat hc0
   by_cases hneg:a<b+cc
   ·have HN:=lh9 (HST.out (a+65536 - b - cc) 1 (by omega) (by omega) (by omega))
    have hneg':decide ((a:Int) - b - cc<0)=true:=by simp;omega
    clear HST
    go_wp2_with fail
    go_quiet ((go_at_call 148;exact zcg (HD2.out _)))
    go_wp2_with (at_builtin;refine wpList_append_own _ rfl _ _ 63 rfl w.heap.size 3 i0 (.int .i64 0) 1 8 Tryz.underlying63 hi0 hz0 hz1 hz2 rfl (by decide) _ _ _ rfl ((hown.drewN_ nq).alloc _) ⟨(wr.drewN nq).heap.size,0,none⟩ 1 1 [.int .i64 ((a:Int) - b - cc+65536)] rfl rfl (zbb _ _ _) (zdJ _ _) (by unfold maxLen;omega) (by omega) (by have:=hbl.size;simp;omega) ?_;intro v' w1 hown' hgrow _)
    have hb':Below w.heap.size w w1:=((zaW hbl nq).alloc hbl.size _).grown hgrow (by have:=hbl.size;simp;omega) (λg hg=>(hown.lt g hg).1)
    have ed:(a:Int) - (b:Int) - (cc:Int)+65536=((a+65536 - b - cc:Nat):Int):=by omega
    rw [ed] at hown'
    have hown2:w1.ownsRow w.heap.size 3 1 v' (k+1) (zat .i64 (out++[a+65536 - b - cc])):=by
     rw [zba];exact hown'
    clear hown' hgrow hown hbl hc1 ed
    go_wp2
    go_roundg (n - k)
    case measure=>omega
    case rel=>exact⟨k+1,1,_,by omega,by omega,by go_num,rfl,HN.out,hown2,hb'⟩
   ·have HN:=lh9 (HST.out (a - b - cc) 0 (by omega) (by omega) (by omega))
    have hneg':decide ((a:Int) - b - cc<0)=false:=by simp;omega
    clear HST
    go_wp2_with fail
    go_quiet ((go_at_call 148;exact zcg (HD2.out _)))
    go_wp2_with (at_builtin;refine wpList_append_own _ rfl _ _ 63 rfl w.heap.size 3 i0 (.int .i64 0) 1 8 Tryz.underlying63 hi0 hz0 hz1 hz2 rfl (by decide) _ _ _ rfl ((hown.drewN_ nq).alloc _) ⟨(wr.drewN nq).heap.size,0,none⟩ 1 1 [.int .i64 ((a:Int) - b - cc)] rfl rfl (zbb _ _ _) (zdJ _ _) (by unfold maxLen;omega) (by omega) (by have:=hbl.size;simp;omega) ?_;intro v' w1 hown' hgrow _)
    have hb':Below w.heap.size w w1:=((zaW hbl nq).alloc hbl.size _).grown hgrow (by have:=hbl.size;simp;omega) (λg hg=>(hown.lt g hg).1)
    have ed:(a:Int) - (b:Int) - (cc:Int)=((a - b - cc:Nat):Int):=by omega
    rw [ed] at hown'
    have hown2:w1.ownsRow w.heap.size 3 1 v' (k+1) (zat .i64 (out++[a - b - cc])):=by
     rw [zba];exact hown'
    clear hown' hgrow hown hbl hc1 ed
    go_wp2
    go_roundg (n - k)
    case measure=>omega
    case rel=>exact⟨k+1,0,_,by omega,by omega,by go_num,rfl,HN.out,hown2,hb'⟩
  ·have hkn:k=n:=by omega
   subst hkn
   have e:=hat.done hyx (by have:=HLN.out;omega)
   have T:=zdj hown hat.dgs (by omega)
   rw [e] at T
   have HT:=lh9 T
   clear e T hat hown
   go_wp2_with fail
   refine HT.out.mono ?_
   intro e w2 hg2
   have hg3:=hg2.from_ hbl
   obtain⟨A2,n2,c2,rfl,hh2,hb2⟩:=hg2.elim
   clear hg2 hh2 hb2
   go_wp2_with fail
   go_ret
   exact hg3
theorem zma (x k:Nat)(A:oA9)(n c:Nat)(w:World)(hA:zak w x A n c)(hn:n<=274877906944)(hk:k<=274877906944):
  Calls Tryz.prog 159 #[.slice A n c,.int .i64 k] w (zbw w (x*2^k)):=by
 obtain⟨i0,hi0,hz0,hz1,hz2⟩:=info_parts zid
 have HLN:=lh9 hA.len
 have HA:=lh9 hA
 clear hA
 go_enter Tryz.func159,Tryz.ntmps159
 go_wp2
 go_loopg [5,6] (k / 16+1) (λg v i wr=>∃(j:Nat),j<=k / 16/\k / 16<g+j/\i=.int .i64 j/\wr.ownsRow w.heap.size 3 1 v j (zat .i64 (List.replicate j 0))/\Below w.heap.size w wr)
 case atStart=>exact⟨0,by omega,by omega,rfl,World.ownsRow_nil _ _ _ _,Below.refl _ _⟩
 case round=>
  obtain⟨j,hj,hg,rfl,hown,hbl⟩:=hrel
  by_cases hlt:j<k / 16
  ·go_wp2_with (at_builtin;refine wpList_append_own _ rfl _ _ 63 rfl w.heap.size 3 i0 (.int .i64 0) 1 8 Tryz.underlying63 hi0 hz0 hz1 hz2 rfl (by decide) _ _ _ rfl (hown.alloc _) ⟨wr.heap.size,0,none⟩ 1 1 [.int .i64 0] rfl rfl (zbb _ _ _) (zdJ _ _) (by unfold maxLen;omega) (by omega) (by have:=hbl.size;simp;omega) ?_;intro v' w1 hown' hgrow _)
   have hb':Below w.heap.size w w1:=(hbl.alloc hbl.size _).grown hgrow (by have:=hbl.size;simp;omega) (λg hg=>(hown.lt g hg).1)
   have hown2:w1.ownsRow w.heap.size 3 1 v' (j+1) (zat .i64 (List.replicate (j+1) 0)):=by
    rw [List.replicate_succ',zba];exact hown'
   clear hown' hgrow hown hbl
   go_wp2
   go_roundg (k / 16 - j)
   case measure=>omega
   case rel=>exact⟨j+1,by omega,by omega,by go_num,hown2,hb'⟩
  ·have hjk:j=k / 16:=by omega
   have P:=lh9 (zhj k wr)
   have hp:=zlQ k
   have S0:=zfV x (2^(k%16)) 0 A n c wr (HA.out.below hbl) (by omega) (by omega) (by decide)
   have hfin:=zjB k
   obtain⟨p,hpe⟩:∃p,2^(k%16)=p:=⟨_,rfl⟩
   rw [hpe] at P hp S0 hfin
   rw [Nat.add_zero] at S0
   have S:=lh9 S0
   have HF:Hid (65536^j*(x*p)=x*2^k):=by
    show _=_
    rw [hjk,<-hfin,<-Nat.mul_assoc,Nat.mul_comm _ x,Nat.mul_assoc]
   have hlen:=zbj (b:=65536) (by decide) (x*p) (n+1) (by
    have h1:=zaS (b:=65536) (by decide) x
    rw [<-HLN.out] at h1
    rw [Nat.pow_succ]
    exact Nat.mul_lt_mul_of_lt_of_le h1 (by omega) (by decide))
   clear hfin S0 hpe
   go_wp2_with fail
   refine P.out.mono ?_
   rintro e w' ⟨rfl,rfl⟩
   go_wp2_with fail
   refine S.out.mono ?_
   intro e w2 hg2
   obtain⟨A2,n2,c2,rfl,hh2,hb2⟩:=hg2.elim
   have hn2:n2<=n+1:=by rw [hh2.len];exact hlen
   have hown2:=zpj hown hb2
   have hbl2:=hbl.trans (hb2.mono hbl.size)
   have hr2:=hh2.1
   have hlen2:=hr2.len_
   clear hown hh2 hb2 hbl hg2
   go_wp2_with (at_builtin;refine zga _ rfl (.tmp 16) (.tmp 21) 63 90 rfl w.heap.size 3 3 i0 (.int .i64 0) 1 8 Tryz.underlying63 under_N hi0 hz0 hz1 hz2 rfl (by decide) _ _ _ rfl hown2 _ A2 n2 c2 (zat .i64 (dg 65536 (x*p))) rfl hr2 (zdN _ _) (by unfold maxLen;omega) (by omega) hbl2.size ?_;intro v' w1 hown' hgrow hat)
   have hb':Below w.heap.size w w1:=hbl2.grown hgrow hbl2.size (λg hg=>(hown2.lt g hg).1)
   rw [<-zba] at hown'
   have T:=zdj hown' ((Dgs.zeros (by decide) j).append (zbU (by decide) (x*p))) (by omega)
   rw [zbf,zdE,List.length_replicate,zcD (by decide),Nat.zero_add,HF.out] at T
   have HT:=lh9 T
   clear T hown2 hown' hgrow hbl2 hr2 hat
   go_wp2_with fail
   refine HT.out.mono ?_
   intro e w3 hg3
   have hg4:=hg3.from_ hb'
   obtain⟨A4,n4,c4,rfl,hh4,hb4⟩:=hg3.elim
   clear hg3 hh4 hb4
   go_wp2_with fail
   go_ret
   exact hg4
theorem zmC {x n:Nat}(hx:(dg 65536 x).length=n+1):x / 65536^n%65536=x / 65536^n/\0<x / 65536^n/\x / 65536^n<65536/\bitLen x=16*n+bitLen (x / 65536^n):=by
 have hx0:x≠0:=by rintro rfl;simp [zcL] at hx
 have h1:=zaS (b:=65536) (by decide) x
 have h2:=(zha (b:=65536) (by decide) x hx0).2
 rw [hx] at h1 h2
 have h3:x / 65536^n<65536:=(Nat.div_lt_iff_lt_mul (Nat.pow_pos (by decide))).2 (by rw [Nat.mul_comm,<-Nat.pow_succ];exact h1)
 have h4:0<x / 65536^n:=Nat.div_pos (by simpa using h2) (Nat.pow_pos (by decide))
 refine⟨Nat.mod_eq_of_lt h3,h4,h3,?_⟩
 have e:(65536:Nat)^n=2^(16*n):=by rw [show(65536:Nat)=2^16 from rfl,<-Nat.pow_mul]
 rw [e] at h4⊢
 exact bitLen_shift x (16*n) (by omega)
theorem zmB (d j:Nat)(h0:d / 2^j=0)(h1:1<=j/\d / 2^(j - 1)≠0):bitLen d=j:=by
 obtain⟨i,rfl⟩:∃i,j=i+1:=⟨j - 1,by omega⟩
 rw [Nat.add_sub_cancel] at h1
 refine zoH d i ?_ ?_
 ·rcases Nat.lt_or_ge d (2^i) with h|h
  ·exact absurd (Nat.div_eq_of_lt h) h1.2
  ·exact h
 ·rcases (Nat.div_eq_zero_iff).1 h0 with h|h
  ·have:=Nat.two_pow_pos (i+1);omega
  ·exact h
theorem zjH (x:Nat)(A:oA9)(n c:Nat)(w:World)(hA:zak w x A n c)(hn:n<=274877906944):
  Calls Tryz.prog 98 #[.slice A n c] w λe w'=>e=.returned (.int .i64 (bitLen x:Nat))/\w=w':=by
 have hln:=hA.len
 have hR:=hA.1
 by_cases h0:n=0
 ·subst h0
  have hx:x=0:=by
   have:=zaS (b:=65536) (by decide) x
   rw [<-hln] at this
   simpa using this
  subst hx
  clear hln
  go_enter Tryz.func98,Tryz.ntmps98
  go_wp2
  go_ret
  exact⟨rfl,rfl⟩
 ·obtain⟨m,rfl⟩:∃m,n=m+1:=⟨n - 1,by omega⟩
  obtain⟨t1,t2,t3,t4⟩:=zmC (x:=x) (n:=m) hln.symm
  obtain⟨ad,rfl,hadb,hc⟩:=zbn hR (k:=m) (by omega)
  rw [zfB,t1] at hc
  obtain⟨d,hd⟩:∃d,x / 65536^m=d:=⟨_,rfl⟩
  rw [hd] at hc t2 t3 t4
  have HT:=lh9 t4
  have hz:(((m+1:Nat):Int)==0)=false:=beq_eq_false_iff_ne.2 (by omega)
  clear hln t1 hd t4 hA
  go_enter Tryz.func98,Tryz.ntmps98
  go_wp2
  go_loopg [3,4] 18 (λg s i wr=>∃j:Nat,j<=16/\16<g+j/\s=.int .i64 (16*(m:Int)+j)/\i=.int .i64 ((d / 2^j:Nat):Int)/\Hid (j=0\/d / 2^(j - 1)≠0)/\wr=w)
  case atStart=>exact⟨0,by omega,by omega,by go_num,by simp,.inl rfl,rfl⟩
  case round=>
   obtain⟨j,hj,hg,rfl,rfl,H,rfl⟩:=hrel
   have HD:Hid (d / 2^(j+1)=d / 2^j / 2):=by show _=_;rw [Nat.pow_succ,<-Nat.div_div_eq_div_mul]
   by_cases hz2:d / 2^j=0
   ·have HB:Hid (bitLen x=16*m+j):=by
     show _=_
     rw [HT.out,zmB d j hz2 ?_]
     rcases H.out with h|h
     ·subst h;simp at hz2;omega
     ·refine⟨?_,h⟩
      rcases Nat.eq_zero_or_pos j with h2|h2
      ·subst h2;simp at hz2;omega
      ·exact h2
    rw [hz2]
    clear hz2
    go_wp2
    go_ret
    exact⟨zkF (by rw [HB.out];go_num),rfl⟩
   ·have hj16:j<16:=by
     rcases Nat.lt_or_ge j 16 with h|h
     ·exact h
     ·have:j=16:=by omega
      subst this
      exact absurd (Nat.div_eq_of_lt (by simpa using t3)) hz2
    have HN:Hid (j+1=0\/d / 2^(j+1 - 1)≠0):=.inr (by simpa using hz2)
    have hlt:d / 2^j<65536:=Nat.lt_of_le_of_lt (Nat.div_le_self _ _) t3
    obtain⟨y,hy⟩:∃y,d / 2^j=y:=⟨_,rfl⟩
    rw [hy] at hz2 HD hlt⊢
    have hy0:0<y:=by omega
    clear hy hz2
    go_wp2
    go_roundg (16 - j)
    case measure=>omega
    case rel=>exact⟨j+1,by omega,by omega,by go_num,by rw [HD.out];go_num,HN,rfl⟩
theorem bit_two (x k:Nat):x / 65536^(k / 16)%65536 / 2^(k%16)%2=x / 2^k%2:=by
 have h1:x / 2^k=x / 65536^(k / 16) / 2^(k%16):=(shr_two x k).symm
 rw [h1]
 generalize x / 65536^(k / 16)=y
 obtain⟨j,hj⟩:∃j,k%16+(j+1)=16:=⟨15 - k%16,by omega⟩
 have e:(65536:Nat)=2^(k%16)*2^(j+1):=by rw [<-Nat.pow_add,hj]
 have h2:y%65536 / 2^(k%16)=y / 2^(k%16)%2^(j+1):=by rw [e,Nat.mod_mul_right_div_self]
 rw [h2,Nat.pow_succ,Nat.mod_mul_left_mod]
theorem ref2_bit (x k:Nat)(A:oA9)(n c:Nat)(w:World)(hA:zak w x A n c)(hn:n<=274877906944)(hk:k<=9223372036854775807):
  Calls Tryz.prog 161 #[.slice A n c,.int .i64 k] w λe w'=>e=.returned (.int .i64 (x / 2^k%2:Nat))/\w=w':=by
 have D1:=zcB A n c (k / 16) _ _ w hA.1 (by omega)
 rw [zfB,show((k / 16:Nat):Int)=(k:Int) / 16 from by omega] at D1
 have P:=zhj k w
 have hp:=zlQ k
 have hp0:0<2^(k%16):=Nat.two_pow_pos _
 have hb:=bit_two x k
 have ha:x / 65536^(k / 16)%65536<65536:=Nat.mod_lt _ (by decide)
 obtain⟨a,hae⟩:∃a,x / 65536^(k / 16)%65536=a:=⟨_,rfl⟩
 obtain⟨p,hpe⟩:∃p,2^(k%16)=p:=⟨_,rfl⟩
 rw [hae] at D1 hb ha
 rw [hpe] at P hp hp0 hb
 obtain⟨b,hbe⟩:∃b,x / 2^k%2=b:=⟨_,rfl⟩
 rw [hbe] at hb⊢
 have HD:=lh9 D1
 have HP:=lh9 P
 have HB:=lh9 hb
 have hpn:¬ p=0:=by omega
 have hq:a / p<=a:=Nat.div_le_self _ _
 have hq2:(a:Int) / (p:Int)=((a / p:Nat):Int):=(Int.natCast_ediv a p).symm
 have HQ:=lh9 hq2
 have hq0:0<=(a:Int) / (p:Int):=by rw [hq2];exact Int.natCast_nonneg _
 have hq1:(a:Int) / (p:Int)<=65535:=by
  have h1:a / p<=65535:=Nat.le_trans hq (by omega)
  rw [hq2];exact(Int.ofNat_le.2 h1:((a / p:Nat):Int)<=((65535:Nat):Int))
 clear D1 P hb hae hpe hbe hA hq2
 go_enter Tryz.func161,Tryz.ntmps161
 go_wp2_with fail
 refine HD.out.mono ?_
 rintro e w' ⟨rfl,rfl⟩
 go_wp2_with fail
 refine HP.out.mono ?_
 rintro e w' ⟨rfl,rfl⟩
 go_wp2
 go_ret
 refine⟨zkF ?_,rfl⟩
 show(a:Int) / (p:Int)%2=(b:Int)
 rw [HQ.out,<-HB.out]
 exact(Int.natCast_emod _ _).symm
