/- What this claim leans on. -/
import Derived.Test.YtkiedljcgkoaiaaGreatDoorRVTimes
import Derived.Test.YtkiedljcgkoaiaaGreatDoorRVMade
namespace Go.Proofs.YtkiedljcgkoaiaaGreatDoor
open Go Go.RowKit
set_option maxHeartbeats 16000000
set_option maxRecDepth 100000
set_option linter.unusedVariables false
set_option linter.unusedSimpArgs false
theorem zah : zds zbQ where
 below h hb:=h.below hb
 offg h hk hcs ho:=⟨⟨h.1.1,zgV h.1.2 hk hcs ho⟩,zgV h.2 hk hcs ho⟩
abbrev zcJ (w : World) (A : oA9) (n c : Nat) (xs : List Rat) : Prop:=zar zbQ w A n c xs
theorem zcJ.keep {w w' : World} {A : oA9} {n c : Nat} {xs : List Rat} (h : zcJ w A n c xs) (hb : Below w.heap.size w w') : zcJ w' A n c xs:=zar.below zah h hb
theorem zcJ.get {w wr : World} {A : oA9} {n c : Nat} {xs : List Rat} (h : zcJ w A n c xs) (hb : Below w.heap.size w wr) {i : Nat} (hi : i < n) : ∃ (ad : Addr) (b : Bool) (B : oA9) (m d : Nat) (F : oA9) (u v : Nat),A = some ad ∧ ad.block < w.heap.size ∧ wr.cell? (ad.add (i * 3)) = some (.bool b) ∧ wr.cell? ⟨(ad.add (i * 3)).block,(ad.add (i * 3)).off + 1,none⟩ = some (.slice B m d) ∧ wr.cell? ⟨(ad.add (i * 3)).block,(ad.add (i * 3)).off + 2,none⟩ = some (.slice F u v) ∧ zbQ wr (xs.getD i 0) b B m d F u v:=by
 obtain ⟨ad,b,B,m,d,F,u,v,e,h0,h1,h2,h3,h4⟩:=h.at_ hi 0
 exact ⟨ad,b,B,m,d,F,u,v,e,h0,zad hb h1,zad hb (zgq h2),zad hb (zlO h3),h4.below hb⟩
def zgp (w : World) (n : Nat) (xs : List Rat) (e : Ending) (w' : World) : Prop:=∃ (A : oA9) (c : Nat),e = .returned (.slice A n c) ∧ zcJ w' A n c xs ∧ Below w.heap.size w w'
theorem ziO : (Tryz.prog.info? 36).map (fun i => (i.zero,i.size,i.bytes)) = some (some (.agg #[.bool false,.slice none 0 0,.slice none 0 0]),3,56):=by kernel_rfl
theorem zeM {A : oA9} {n c : Nat} {L : List (Int × Int)} {w : World} (h : zaT w A n c L) :
  Calls Tryz.prog 11 #[.slice A n c] w (zgp w n (zcq L)):=by
 obtain ⟨i1',hi1,hz10,hz11,hz12⟩:=info_parts ziO
 have hn0 : n ≤ 1048576:=Nat.le_trans h.fits h.small
 have HL:=lh9 h.len
 have HG : Hid (∀ k,k < n → zaX (L.getD k (0,0)).1 ∧ zaX (L.getD k (0,0)).2 ∧ ∃ ad,A = some ad ∧ ad.block < w.heap.size ∧ w.cell? (ad.add (k * 2)) = some (.int .i64 (L.getD k (0,0)).1) ∧ w.cell? (ad.add (k * 2 + 1)) = some (.int .i64 (L.getD k (0,0)).2)):=fun k hk => by
  have hl:=h.len
  have e : L[k]? = some (L.getD k (0,0)):=by rw [List.getD_eq_getElem?_getD,List.getElem?_eq_getElem (by omega)]; rfl
  obtain ⟨h1,h2⟩:=h.ints _ (List.mem_of_getElem? e)
  exact ⟨h1,h2,h.row k _ e⟩
 have HS : Hid (∀ k,k < n → zcq (L.take (k + 1)) = zcq (L.take k) ++ [qOf (L.getD k (0,0)).1 (L.getD k (0,0)).2]):=fun k hk => by
  have hl:=h.len
  unfold zcq
  rw [List.take_succ_eq_append_getElem (by omega),List.map_append,List.getD_eq_getElem?_getD,List.getElem?_eq_getElem (by omega)]
  rfl
 unfold zgp
 clear h
 have hB:=Below.refl w.heap.size w
 go_enter Tryz.func11,Tryz.ntmps11
 go_wp2_with fail
 go_loopg [3,4] (n + 1) (fun g sl ix wr => ∃ (k : Nat) (v : Value) (vs : List Value),k ≤ n ∧ n < g + k ∧ ix = .int .i64 k ∧ v = sl ∧ zcs zbQ wr w.heap.size 36 v (zcq (L.take k)) vs ∧ Below w.heap.size w wr)
 case atStart => exact ⟨0,_,_,Nat.zero_le _,by omega,rfl,rfl,zcs.nil _ _ _,hB⟩
 case round =>
  clear hB
  obtain ⟨k,v,vs,hkn,hg,rfl,rfl,hon,hB⟩:=hrel
  by_cases hlt : k < n
  ·obtain ⟨hi1',hi2',ad,rfl,hadb,hc0,hc1⟩:=HG.out k hlt
   have HSK:=lh9 (HS.out k hlt)
   obtain ⟨q,hq⟩ : ∃ q,L.getD k (0,0) = q:=⟨_,rfl⟩
   rw [hq] at hi1' hi2' hc0 hc1 HSK
   obtain ⟨q1,q2⟩:=q
   dsimp only at hi1' hi2' hc0 hc1 HSK
   have HC0 : Hid (∀ w',Below w.heap.size w w' → w'.cell? (ad.add (k * 2)) = some (.int .i64 q1) ∧ w'.cell? ⟨(ad.add (k * 2)).block,(ad.add (k * 2)).off + 1,none⟩ = some (.int .i64 q2)):=fun w' hb => ⟨zad hb hc0,zgq (zad hb hc1)⟩
   have hd1 : decide ((k : Int) < (n : Int)) = true:=decide_eq_true (by omega)
   have i1 : (0 : Int) ≤ (k : Int):=by omega
   have i2 : (k : Int) < (n : Int):=by omega
   have hbd:=(Below.refl wr.heap.size wr).drew
   have HON:=lh9 (zcs.below zah hon hbd)
   have HB:=lh9 (zac hB hbd)
   have HI1:=lh9 hi1'
   have HI2:=lh9 hi2'
   have hlq : (zcq (L.take k)).length = k:=by rw [zbB,List.length_take,HL.out]; omega
   have HLQ:=lh9 hlq
   obtain ⟨c0,c1⟩:=HC0.out _ hB
   clear hon hi1' hi2' hq hlq hbd hc0 hc1 hB
   go_wp2_with fail
   refine rg (csc c0 (csc c1 csn)) (fun hHeld => ?_)
   clear c0 c1
   generalize wr.drew = D at *
   refine tk 0 ?_
   refine tk 1 ?_
   refine tk 2 ?_
   refine tk 3 ?_
   refine tk 4 ?_
   refine tk 5 ?_
   refine tk 6 ?_
   refine tk 7 ?_
   refine tk 8 ?_
   refine tk 9 ?_
   refine tk 10 ?_
   refine rc 11 (fun KK hK => ?_)
   go_simp
   (with_reducible refine (zho HI1.out HI2.out).mono ?_)
   rintro e w5 ⟨b5,B5,m5,d5,E5,u5,f5,rfl,hx5,hb⟩
   refine hK.out _ _ (Cs.below hHeld hb) (fun hHeld => ?_)
   clear hK KK
   obtain ⟨t1,t2,-⟩:=zaL w5 36 #[.bool b5,.slice B5 m5 d5,.slice E5 u5 f5]
   have hup:=zac hb t1
   have hon:=zcs.below zah HON.out hup
   have HX:=lh9 (hx5.below t1)
   have HB:=lh9 (zac HB.out hup)
   have HCELL:=lh9 (zgY t2)
   have HBS:=lh9 HB.out.size
   have hown:=hon.own
   rw [HLQ.out] at hown
   have HOWN:=lh9 hown
   have HNOU:=lh9 hon.nou
   have HOB:=lh9 (fun r (h : v.ownBlock = some r) => hon.own.lt r h)
   have HON:=lh9 hon
   have hHeld2:=Cs.below hHeld t1
   clear hb hup hx5 hon t1 t2 hown
   refine rc 12 (fun KK hK => ?_)
   go_simp
   refine hK.out _ _ hHeld2 (fun hHeld => ?_)
   clear hK KK hHeld2
   refine rc 13 (fun KK hK => ?_)
   refine zeU _ (.tmp 11) (.tmp 23) 29 rfl w.heap.size 36 i1' (.agg #[.bool false,.slice none 0 0,.slice none 0 0]) 3 56 Tryz.underlying29 hi1 hz10 hz11 hz12 rfl (by decide) v k vs rfl HOWN.out ⟨w5.heap.size,0,none⟩ 1 1 [.bool b5,.slice B5 m5 d5,.slice E5 u5 f5] rfl rfl HCELL.out (zkb _ _ _ _ _ _ _) (by unfold maxLen; omega) (by omega) HBS.out HNOU.out ziA (zka _ _ _ _ _ _ _) ?_
   intro v' w8 hown' hgrow hat hnou'
   have HON8:=lh9 (zcs.grow (n:=k + 1) zah HON.out HX.out hown' (by rw [HLQ.out]) hgrow hnou')
   have HB8:=lh9 (HB.out.grown hgrow HBS.out (fun r hr => (HOB.out r hr).1))
   obtain ⟨c0,c1⟩:=HC0.out _ HB8.out
   refine hK.out _ _ (csc c0 (csc c1 csn)) (fun hHeld => ?_)
   clear hK KK c0 c1 hown' hgrow hat hnou'
   refine tk 14 ?_
   refine rdn ?_
   clear hHeld HON HX HB HCELL HBS HOWN HNOU HOB
   rw [← HSK.out] at HON8
   go_wp2
   go_roundg (n - k)
   case measure => omega
   case rel => exact ⟨k + 1,_,_,by omega,by omega,by go_num,rfl,HON8.out,HB8.out⟩
  ·have hd1 : decide ((k : Int) < (n : Int)) = false:=decide_eq_false (by omega)
   have hk : k = n:=by omega
   subst hk
   rw [List.take_of_length_le (by rw [HL.out]; exact Nat.le_refl _)] at hon
   have hlq : (zcq L).length = k:=by rw [zbB]; exact HL.out
   obtain ⟨A1,c1,rfl,hv,hf⟩:=hon.shape
   rw [hlq] at hv ⊢
   have HV:=lh9 hv
   have HB1:=lh9 hB
   clear hon hv hB hlq hf
   go_wp2
   go_ret
   exact ⟨A1,c1,rfl,HV.out,HB1.out⟩
def OptQ : El (Option Rat):=fun w o b A n c F k f => match o with | none => True | some r => zbQ w r b A n c F k f
theorem zhe : zds OptQ where
 below {w w' o b A n c F k f} h hb:=by
  cases o with
  | none => trivial
  | some r => exact zbQ.below (w:=w) (w':=w') h hb
 offg {w w' o b A n c F k f g t cs} h hk hcs ho:=by
  cases o with
  | none => trivial
  | some r => exact zah.offg (x:=r) h hk hcs ho
theorem zmR (n : Nat) (hn : n ≤ 1099511627776) : ∃ Z : Array Value,∀ W : World,(Instr.makeSlice 29 (.int .i64 (n : Int)) (.int .i64 (n : Int))).run Tryz.prog W = .ok (.slice (some ⟨W.heap.size,0,none⟩) n n) (W.alloc (.cells Z 36)) ∧ zaR OptQ (W.alloc (.cells Z 36)) 36 W.heap.size n (List.replicate n none):=by
 obtain ⟨i0,hi0,hz0,hz1,hz2⟩:=info_parts ziO
 refine ⟨madeCells zeG (n * 3),fun W => ⟨?_,zaR.made W _ n none (fun _ => trivial)⟩⟩
 have h:=zaS (P:=Tryz.prog) _ _ i0 _ Tryz.underlying29 hi0 hz0 .i64 .i64 n n (Nat.le_refl _) (by rw [hz2]; omega) (by omega) W
 rw [hz1] at h
 exact h
theorem zkx {w : World} {t : TypeId} {g n : Nat} {r : Rat} (h : zaR OptQ w t g n (List.replicate n (some r))) (hn : n ≤ 9223372036854775807) : zcJ w (some ⟨g,0,none⟩) n n (List.replicate n r):=by
 have h1:=zaR.row h hn
 refine ⟨by simp,Nat.le_refl _,hn,fun i x hi => ?_⟩
 have hlt : i < n:=by
  have:=(List.getElem?_eq_some_iff.1 hi).1
  simpa using this
 obtain rfl : r = x:=by
  rw [List.getElem?_replicate,if_pos hlt] at hi
  injection hi
 exact h1.num i (some r) (by rw [List.getElem?_replicate,if_pos hlt])
theorem refs_set {w : World} {t : TypeId} {g n k : Nat} {r : Rat} (h : zaR OptQ w t g n (zcm none (List.replicate n (some r)) n k)) (hk : k < n) {b : Bool} {B : oA9} {m d : Nat} {F : oA9} {u v : Nat} (hx : zbQ w r b B m d F u v) :
  zaR OptQ (((w.setCell ⟨g,k * 3,none⟩ (.bool b)).setCell ⟨g,k * 3 + 1,none⟩ (.slice B m d)).setCell ⟨g,k * 3 + 2,none⟩ (.slice F u v)) t g n (zcm none (List.replicate n (some r)) n (k + 1)):=by
 have h1:=zaR.set_ zhe h hk (x:=some r) hx
 rw [zdR none (List.replicate n (some r)) n k (by simp) hk (some r) (by rw [List.getElem?_replicate,if_pos hk])] at h1
 exact h1
theorem isInt_1 : zaX 1:=⟨by decide,by decide⟩
theorem isInt_0 : zaX 0:=⟨by decide,by decide⟩
theorem isInt_m : zaX (-1):=⟨by decide,by decide⟩
theorem szI_1 : SzQ 1 ((1 : Int) : Rat):=⟨by decide,by decide⟩
theorem szI_m : SzQ 1 ((-1 : Int) : Rat):=⟨by decide,by decide⟩
theorem addTL_i1 (xs ys : List Rat) : zbl xs ((1 : Int) : Rat) ys = addL xs ys:=zhT xs ys
theorem addTL_im (xs ys : List Rat) : zbl xs ((-1 : Int) : Rat) ys = subL xs ys:=zhS xs ys
theorem znD (n : Nat) : zax 1 (List.replicate n 0):=fun x hx => by rw [(List.mem_replicate.1 hx).2]; exact SzQ.zero
theorem addTL_z {n : Nat} {r : Rat} {xs : List Rat} (h : xs.length = n) : zbl (List.replicate n 0) r xs = zcM r xs:=by subst h; exact zgE r xs
end Go.Proofs.YtkiedljcgkoaiaaGreatDoor
