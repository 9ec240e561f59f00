/- What this claim leans on. -/
import Derived.Test.YtedbgdlbgohiiaaGreatDoorTJ8Add
namespace Go.Proofs.YtedbgdlbgohiiaaGreatDoor
open Go Go.RowKit
set_option maxHeartbeats 16000000
set_option maxRecDepth 100000
set_option linter.unusedVariables false
set_option linter.unusedSimpArgs false
structure zgr (w : World) (A : oA9) (n c : Nat) (rs : List Rat) : Prop where
 len : rs.length = n
 fits : n ≤ c
 most : c ≤ 9223372036854775807
 num : ∀ i,i < n → ∃ (ad : Addr) (b : Bool) (B : oA9) (m d : Nat) (E : oA9) (u v : Nat),A = some ad ∧ ad.block < w.heap.size ∧ w.cell? (ad.add (i * 3)) = some (.bool b) ∧ w.cell? (ad.add (i * 3 + 1)) = some (.slice B m d) ∧ w.cell? (ad.add (i * 3 + 2)) = some (.slice E u v) ∧ zaj w (rs.getD i 0) b B m d E u v
theorem zgr.below {w w' : World} {A : oA9} {n c : Nat} {rs : List Rat} (h : zgr w A n c rs) (hb : Below w.heap.size w w') : zgr w' A n c rs :=
 ⟨h.len,h.fits,h.most,fun i hi => by
  obtain ⟨ad,b,B,m,d,E,u,v,e,h1,h2,h3,h4,h5⟩:=h.num i hi
  exact ⟨ad,b,B,m,d,E,u,v,e,Nat.lt_of_lt_of_le h1 hb.size,zab hb h2,zab hb h3,zab hb h4,h5.below hb⟩⟩
def zgf (rs : List Rat) : Rat:=rs.foldl (fun a b => a + b) 0
theorem zmP (rs : List Rat) (r : Rat) : zgf (rs ++ [r]) = zgf rs + r:=by unfold zgf; rw [List.foldl_append]; rfl
theorem zmQ (rs : List Rat) (k : Nat) (h : k < rs.length) : zgf (rs.take (k + 1)) = zgf (rs.take k) + rs.getD k 0:=by
 rw [List.take_succ_eq_append_getElem h,zmP,List.getD_eq_getElem?_getD,List.getElem?_eq_getElem h]
 rfl
theorem zkP {w : World} {r : Rat} {b : Bool} {A E : oA9} {n c k f g : Nat} {t : TypeId} {p : Bool} {q q2 : oA9} {r1 s r2 s2 : Nat} (h : zaj w r b A n c E k f) (kd : Blk w g t #[.bool p,.slice q r1 s,.slice q2 r2 s2]) (x y z : Value) :
  zaj (((w.setCell ⟨g,0,none⟩ x).setCell ⟨g,1,none⟩ y).setCell ⟨g,2,none⟩ z) r b A n c E k f:=zgE h kd (NoU.s3 _ _ _ _ _ _ _) (off3 _ _ _ _ _)
theorem blk_far3 {w : World} {g g' : Nat} {t : TypeId} {cs : Array Value} (h : Blk w g t cs) (hne : g ≠ g') (x y z : Value) : Blk (((w.setCell ⟨g',0,none⟩ x).setCell ⟨g',1,none⟩ y).setCell ⟨g',2,none⟩ z) g t cs:=((h.far (p:=⟨g',0,none⟩) hne x).far (p:=⟨g',1,none⟩) hne y).far (p:=⟨g',2,none⟩) hne z
theorem cell_q1 {w : World} {ad : Addr} {k : Nat} {v : Value} (h : w.cell? (ad.add (k + 1)) = some v) : w.cell? ⟨(ad.add k).block,(ad.add k).off + 1,none⟩ = some v:=by
 rw [← Go.Deep.add_add] at h
 exact h
theorem cell_q2 {w : World} {ad : Addr} {k : Nat} {v : Value} (h : w.cell? (ad.add (k + 2)) = some v) : w.cell? ⟨(ad.add k).block,(ad.add k).off + 2,none⟩ = some v:=by
 rw [← Go.Deep.add_add] at h
 exact h
theorem rat_sum (rs : List Rat) (A : oA9) (n c K : Nat) (w : World) (hT : zak w) (h : zgr w A n c rs) (hn : n ≤ 1073741824) (hK : K ≤ 67108864) (he : ∀ i,i < n → SzQ K (rs.getD i 0)) (hs : ∀ k,k ≤ n → SzQ K (zgf (rs.take k))) :
  Calls Tryz.prog 68 #[.slice A n c] w (zaG w (zgf rs)):=by
 have HTB:=lh9 (fun w' (h : Below w.heap.size w w') => hT.on h)
 have HN:=lh9 (fun w' (hb : Below w.heap.size w w') => h.below hb)
 have HS:=lh9 hs
 have HE:=lh9 he
 have HSU:=lh9 (fun k (hk : k < n) => zmQ rs k (by rw [h.len]; exact hk))
 have HF : Hid (zgf (rs.take n) = zgf rs):=by
  show _ = _
  rw [List.take_of_length_le (by rw [h.len]; exact Nat.le_refl _)]
 clear h hs he hT
 go_enter Tryz.func68,Tryz.ntmps68
 go_wp2_with fail
 obtain ⟨hB,hk1,hp,b5⟩:=zbr w 48 48 #[.bool false,.slice none 0 0,.slice none 0 0] #[.bool false,.slice none 0 0,.slice none 0 0]
 generalize hV : (w.alloc (.cells #[.bool false,.slice none 0 0,.slice none 0 0] 48)).alloc (.cells #[.bool false,.slice none 0 0,.slice none 0 0] 48) = V1 at *
 clear hV b5
 obtain ⟨gp,hgp⟩ : ∃ g,w.heap.size + 1 = g:=⟨_,rfl⟩
 rw [hgp] at hp ⊢
 have hgw : w.heap.size < gp:=by omega
 go_loopg [9] (n + 1) (fun g ix wr => ∃ (k : Nat) (b : Bool) (Ap : oA9) (np cp : Nat) (Ep : oA9) (kp fp : Nat),k ≤ n ∧ n < g + k ∧ ix = .int .i64 k ∧ zaj wr (zgf (rs.take k)) b Ap np cp Ep kp fp ∧ Blk wr gp 48 #[.bool b,.slice Ap np cp,.slice Ep kp fp] ∧ Below w.heap.size w wr ∧ Blk wr w.heap.size 48 #[.bool false,.slice none 0 0,.slice none 0 0])
 case atStart => exact ⟨0,false,none,0,0,none,0,0,Nat.zero_le _,by omega,rfl,zfY _,hp,hB,hk1⟩
 case round =>
  clear hp hB hk1 hgp
  obtain ⟨k,b,Ap,np,cp,Ep,kp,fp,hkn,hg,rfl,hw,hp,hB,hk1⟩:=hrel
  by_cases hlt : k < n
  ·obtain ⟨ad,b1,B1,m1,d1,E1,u1,v1,rfl,hadb,hc0,hc1,hc2,hx⟩:=(HN.out _ hB).num k hlt
   have HM:=lh9 (fun w' (hb : Below wr.heap.size wr w') => zlC (zgf (rs.take k)) (rs.getD k 0) b Ap np cp Ep kp fp b1 B1 m1 d1 E1 u1 v1 w' (HTB.out _ (zaa hB hb)) (hw.below hb) (hx.below hb) (SzQ.fit (HS.out k hkn) hw hK) (SzQ.fit (HE.out k hlt) hx hK))
   have hc1:=cell_q1 hc1
   have hc2:=cell_q2 hc2
   have i1 : (0 : Int) ≤ (k : Int):=by omega
   have i2 : (k : Int) < (n : Int):=by omega
   obtain ⟨p0,p1,p2⟩:=hp.c3
   obtain ⟨st,d2,d3⟩:=zaE wr 48 #[.bool b1,.slice B1 m1 d1,.slice E1 u1 v1]
   obtain ⟨q0,q1,q2⟩:=d2.c3
   have p3:=zab st p0
   have p4:=zab st p1
   have p5:=zab st p2
   have HM2:=lh9 (HM.out _ st)
   have HB1:=lh9 (zaa hB st)
   have HP1:=lh9 (zac st hp)
   have HK2:=lh9 (zac st hk1)
   clear hw hx hB hp hk1 HM st d2 d3
   go_wp2_with fail
   refine HM2.out.mono ?_
   rintro e w3 ⟨b3,A3,n3,c3,E3,k3,f3,rfl,hw3,hb⟩
   rw [← HSU.out k hlt] at hw3
   have hB3:=zaa HB1.out hb
   have hp3:=zac hb HP1.out
   have hk3:=zac hb HK2.out
   obtain ⟨sc0,sf0,sc1,sf1,sc2,sf2⟩:=st3 hp3 (.bool b3) (.slice A3 n3 c3)
   have hw4:=zkP hw3 hp3 (.bool b3) (.slice A3 n3 c3) (.slice E3 k3 f3)
   have hB4:=bl3 (.bool b3) (.slice A3 n3 c3) (.slice E3 k3 f3) (by show w.heap.size ≤ gp; omega) hB3
   have hp4:=sn3 hp3 (.bool b3) (.slice A3 n3 c3) (.slice E3 k3 f3)
   have hk4:=blk_far3 hk3 (by show w.heap.size ≠ gp; omega) (.bool b3) (.slice A3 n3 c3) (.slice E3 k3 f3)
   clear hb hB3 hp3 hk3 hw3 HM2 HB1 HP1 HK2 hc0 hc1 hc2 p0 p1 p2 p3 p4 p5 q0 q1 q2
   go_wp2
   go_roundg (n - k)
   case measure => omega
   case rel => exact ⟨k + 1,b3,A3,n3,c3,E3,k3,f3,by omega,by omega,by go_num,hw4,hp4,hB4,hk4⟩
  ·have hkn : k = n:=by omega
   subst hkn
   rw [HF.out] at hw
   obtain ⟨p0,p1,p2⟩:=hp.c3
   obtain ⟨sc0,sf0,sc1,sf1,sc2,sf2⟩:=st3 hk1 (.bool b) (.slice Ap np cp)
   obtain ⟨r0,r1,r2⟩:=(sn3 hk1 (.bool b) (.slice Ap np cp) (.slice Ep kp fp)).c3
   have HG:=lh9 (gq3 hw hk1 hB (Nat.le_refl _))
   clear hw hp hk1 hB
   go_wp2
   refine bodyPost_ret (v:=.agg #[.bool b,.slice Ap np cp,.slice Ep kp fp]) (by simp [results,Tryz.results68,go_sem,r0,r1,r2]) rfl ?_
   exact HG.out
def zfK (k : Nat) (f : Nat → Rat) : Rat:=zcC ((List.range k).map f)
theorem zla (rs : List Rat) (r : Rat) : zcC (rs ++ [r]) = zcC rs + r:=by
 unfold zcC
 rw [List.foldl_append]
 rfl
theorem zhZ (k : Nat) (f : Nat → Rat) : zfK (k + 1) f = zfK k f + f k:=by
 unfold zfK
 rw [List.range_succ,List.map_append,List.map_cons,List.map_nil,zla]
theorem zeQ {k : Nat} {f g : Nat → Rat} (h : ∀ i,i < k → f i = g i) : zfK k f = zfK k g:=by
 unfold zfK
 congr 1
 exact List.map_congr_left fun i hi => h i (List.mem_range.1 hi)
theorem zmN {k : Nat} {f : Nat → Rat} (h : ∀ i,i < k → f i = 0) : zfK k f = 0:=by
 induction k with
 | zero => rfl
 | succ k ih => rw [zhZ,ih (fun i hi => h i (by omega)),h k (by omega),Rat.add_zero]
theorem zmO {k c : Nat} (hc : c < k) (f : Nat → Rat) : zfK k (fun i => f i * (if i = c then 1 else 0)) = f c:=by
 induction k with
 | zero => omega
 | succ k ih =>
   rw [zhZ]
   by_cases h : c = k
   ·subst h
    rw [if_pos rfl,Rat.mul_one,zmN fun i hi => by rw [if_neg (by omega),Rat.mul_zero],Rat.zero_add]
   ·rw [if_neg (by omega),Rat.mul_zero,Rat.add_zero,ih (by omega)]
theorem zlW : ∀ {k : Nat} {xs ys : List Rat},xs.length = k → ys.length = k → zff xs ys = zfK k fun i => xs.getD i 0 * ys.getD i 0
 | k,xs,ys,hx,hy => by
   unfold zff zfK
   congr 1
   apply List.ext_getElem
   ·simp [hx,hy]
   ·intro i h1 h2
    have h3 : i < k:=by simpa using h2
    rw [List.getElem_zipWith,List.getElem_map,List.getElem_range,List.getD_eq_getElem?_getD,List.getD_eq_getElem?_getD,List.getElem?_eq_getElem (by omega),List.getElem?_eq_getElem (by omega)]
    rfl
def zcI (n m : Nat) (f : Nat → Nat → Rat) : List (List Rat):=(List.range n).map fun r => (List.range m).map (f r)
def atM (M : List (List Rat)) (r c : Nat) : Rat:=(M.getD r []).getD c 0
structure zch (M : List (List Rat)) (n m : Nat) : Prop where
 rows : M.length = n
 cols : ∀ L ∈ M,L.length = m
theorem zch.row {M : List (List Rat)} {n m : Nat} (h : zch M n m) {r : Nat} (hr : r < n) : (M.getD r []).length = m:=by
 have hl:=h.rows
 rw [List.getD_eq_getElem?_getD,List.getElem?_eq_getElem (by omega)]
 exact h.cols _ (List.getElem_mem _)
theorem zcM (n m : Nat) (f : Nat → Nat → Rat) : zch (zcI n m f) n m:=⟨by simp [zcI],fun L hL => by
 obtain ⟨r,_,rfl⟩:=List.mem_map.1 hL
 simp⟩
theorem tabN_row {n m : Nat} {f : Nat → Nat → Rat} {r : Nat} (hr : r < n) : (zcI n m f).getD r [] = (List.range m).map (f r):=by
 unfold zcI
 rw [List.getD_eq_getElem?_getD,List.getElem?_map,List.getElem?_range hr]
 rfl
theorem zha {m c : Nat} {f : Nat → Rat} (hc : c < m) : ((List.range m).map f).getD c 0 = f c:=by
 rw [List.getD_eq_getElem?_getD,List.getElem?_map,List.getElem?_range hc]
 rfl
theorem zfw {n m : Nat} {f : Nat → Nat → Rat} {r c : Nat} (hr : r < n) (hc : c < m) : atM (zcI n m f) r c = f r c:=by
 unfold atM
 rw [tabN_row hr,zha hc]
theorem zhl {n m : Nat} {f g : Nat → Nat → Rat} (h : ∀ r c,r < n → c < m → f r c = g r c) : zcI n m f = zcI n m g:=by
 unfold zcI
 exact List.map_congr_left fun r hr => List.map_congr_left fun c hc => h r c (List.mem_range.1 hr) (List.mem_range.1 hc)
theorem zkO {m : Nat} {xs : List Rat} (h : xs.length = m) : (List.range m).map (fun c => xs.getD c 0) = xs:=by
 subst h
 apply List.ext_getElem
 ·simp
 ·intro i h1 h2
  rw [List.getElem_map,List.getElem_range,List.getD_eq_getElem?_getD,List.getElem?_eq_getElem h2]
  rfl
theorem zch.eq {M : List (List Rat)} {n m : Nat} (h : zch M n m) : zcI n m (atM M) = M:=by
 have hl:=h.rows
 unfold zcI
 apply List.ext_getElem
 ·simp [hl]
 ·intro i h1 h2
  rw [List.getElem_map,List.getElem_range]
  have e : M.getD i [] = M[i]:=by rw [List.getD_eq_getElem?_getD,List.getElem?_eq_getElem h2]; rfl
  show (List.range m).map (fun c => (M.getD i []).getD c 0) = M[i]
  rw [e]
  exact zkO (h.cols _ (List.getElem_mem h2))
theorem zch.ext {A B : List (List Rat)} {n m : Nat} (hA : zch A n m) (hB : zch B n m) (h : ∀ r c,r < n → c < m → atM A r c = atM B r c) : A = B:=by
 rw [← hA.eq,← hB.eq]
 exact zhl h
def zfb (n : Nat) (M : List (List Rat)) (c : Nat) : List Rat:=(List.range n).map fun r => atM M r c
theorem zfc (n : Nat) (M : List (List Rat)) (c : Nat) : (zfb n M c).length = n:=by simp [zfb]
theorem colM_at {n : Nat} {M : List (List Rat)} {c r : Nat} (hr : r < n) : (zfb n M c).getD r 0 = atM M r c:=zha hr
def zaM (n m : Nat) (M : List (List Rat)) : List (List Rat):=zcI m n fun r c => atM M c r
theorem zmU {M : List (List Rat)} {n m : Nat} (h : zch M n m) : zaM m n (zaM n m M) = M:=by
 rw [← h.eq]
 exact zhl fun r c hr hc => by
  unfold zaM
  rw [zfw hc hr]
  rw [zfw hr hc]
def zdF (n k m : Nat) (A B : List (List Rat)) : List (List Rat):=zcI n m fun r c => zff (A.getD r []) (zfb k B c)
theorem zem (n k m : Nat) (A B : List (List Rat)) : zch (zdF n k m A B) n m:=zcM _ _ _
theorem ziv {n k m : Nat} {A B : List (List Rat)} (hA : zch A n k) {r c : Nat} (hr : r < n) (hc : c < m) : atM (zdF n k m A B) r c = zfK k fun i => atM A r i * atM B i c:=by
 unfold zdF
 rw [zfw hr hc,zlW (hA.row hr) (zfc k B c)]
 exact zeQ fun i hi => by rw [colM_at hi]; rfl
def oneM (n : Nat) : List (List Rat):=zcI n n fun r c => if r = c then 1 else 0
theorem mul_oneM {n k : Nat} {A : List (List Rat)} (hA : zch A n k) : zdF n k k A (oneM k) = A:=by
 refine zch.ext (zem _ _ _ _ _) hA fun r c hr hc => ?_
 rw [ziv hA hr hc]
 have h1 : zfK k (fun i => atM A r i * atM (oneM k) i c) = zfK k (fun i => atM A r i * (if i = c then 1 else 0)):=zeQ fun i hi => by unfold oneM; rw [zfw hi hc]
 rw [h1]
 exact zmO hc _
theorem ziQ {n m : Nat} {M : List (List Rat)} {r c : Nat} (hr : r < m) (hc : c < n) : atM (zaM n m M) r c = atM M c r:=zfw hr hc
theorem zce (n m : Nat) (M : List (List Rat)) : zch (zaM n m M) m n:=zcM _ _ _
theorem turn_mul {n k m : Nat} {A B : List (List Rat)} (hA : zch A n k) : zaM n m (zdF n k m A B) = zdF m k n (zaM k m B) (zaM n k A):=by
 refine zch.ext (zcM _ _ _) (zem _ _ _ _ _) fun r c hr hc => ?_
 rw [ziQ hr hc,ziv hA hc hr,ziv (zce k m B) hr hc]
 exact zeQ fun i hi => by rw [ziQ hr hi,ziQ hi hc,Rat.mul_comm]
def byM (n m : Nat) (v : List Rat) (M : List (List Rat)) : List Rat:=(List.range m).map fun c => zff v (zfb n M c)
def zbo (M : List (List Rat)) (v : List Rat) : List Rat:=M.map fun L => zff L v
theorem zhH : ∀ (xs ys : List Rat),zff xs ys = zff ys xs
 | [],[] => rfl
 | [],_ :: _ => rfl
 | _ :: _,[] => rfl
 | x :: xs,y :: ys => by rw [zhI,zhI,zhH xs ys,Rat.mul_comm]
theorem zle {n m : Nat} {M : List (List Rat)} {v : List Rat} : zbo (zaM n m M) v = byM n m v M:=by
 unfold zbo byM zaM zcI
 rw [List.map_map]
 exact List.map_congr_left fun c _ => zhH _ _
theorem dims_nil (m : Nat) : zch [] 0 m:=⟨rfl,fun L hL => by cases hL⟩
end Go.Proofs.YtedbgdlbgohiiaaGreatDoor
