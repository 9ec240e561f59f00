/- What this claim leans on. -/
import Derived.Test.YtgigccjiblaefaaGreatDoorOBunR
import Derived.Test.YtgigccjiblaefaaGreatDoorOBunY
namespace Go.Proofs.YtgigccjiblaefaaGreatDoor
open Go Go.RowKit
open Go.ChangeShapes Go.WideShapes Go.ChangeAt
set_option maxHeartbeats 16000000
section
variable {H : Type} {enc : TypeId × Value → H} {P : Program}
theorem post_of_below {f : Func} {s : ChangeSpec} {apart fresh handsOn again : Bool} {W W' : World} {args : Array Value} {v : Value} {ds gs : List (DataW H)} {before pa pv : List MemPlace}
  (hW : DataW.Whole enc P f.params.toList s.vars apart W args.toList ds gs before)
  (hres : ∀ (b : Nat) (sp : Nat → Bool) (hd : Bool),DataW.TrodAll enc P W' b sp hd f.resultTypes.toList (v.resultList f.resultTypes.size) (s.fn H (ds ++ gs)).results [])
  (hargs : ∀ sp : Nat → Bool,(∀ p ∈ before,sp p.block = true) → DataW.TrodAll enc P W' 0 sp true f.params.toList args.toList (s.fn H (ds ++ gs)).args pa)
  (hvars : ∀ sp : Nat → Bool,(∀ p ∈ before,sp p.block = true) → DataW.TrodVars enc P W' sp s.vars (s.fn H (ds ++ gs)).vars pv)
  (hps : before = pa ++ pv) (hb : Below W.heap.size W W')
  (hok : ∀ (j : Nat) (t : TypeId) (r : Value),f.resultTypes[j]? = some t → (v.resultList f.resultTypes.size)[j]? = some r → Value.okWide P W' .any 0 t r) :
  s.post enc P f apart fresh handsOn again W args v W' := by
 have hlt : ∀ p ∈ before,p.block < W.heap.size := fun p hp => hW.lt p hp
 have hold : ∀ p ∈ before,(fun b => decide (b < W.heap.size)) p.block = true := fun p hp => by simpa using hlt p hp
 refine ⟨ds,gs,before,[],pa,pv,hW,hres _ _ _,hargs _ hold,hvars _ hold,World.keptBut_mono (fun p hp => ⟨hp,?_⟩) (hb.frame (· ∈ before)),fun _ => ?_⟩
 ·rw [hps,List.mem_append] at hp
  exact Or.inr hp
 ·obtain ⟨_,_,_,_,_,hz,hn⟩ := hW
  refine ⟨hok,_,_,([] ++ pa) ++ pv,⟨[] ++ pa,pv,trodAll_append (hargs _ (fun _ _ => rfl)) (hres _ _ _),hvars _ (fun _ _ => rfl),rfl,?_,?_⟩,?_⟩
  ·intro b off hp
   have hin : MemPlace.cell b off ∈ before := by rw [hps]; simpa using hp
   rw [hb.frozen (hlt _ hin)]
   exact hz b off hin
  ·intro ha
   have := hn ha
   rw [hps] at this
   simpa using this
  ·intro p hp _
   rw [hps]
   simpa using hp
end
end Go.Proofs.YtgigccjiblaefaaGreatDoor
namespace Go.Proofs.YtgigccjiblaefaaGreatDoor
open Go Go.RowKit
set_option maxHeartbeats 16000000
set_option maxRecDepth 100000
set_option linter.unusedVariables false
theorem zlz (x mm : Nat) (A : oA9) (n c : Nat) (w : World) (hA : zal w x A n c) (hn : n ≤ 274877906944) (hm0 : 0 < mm) (hm1 : mm ≤ 32768) :
  Calls Tryz.prog 122 #[.slice A n c,.int .i64 mm] w (zhg w x mm) := by
 obtain ⟨i0,hi0,hz0,hz1,hz2⟩ := info_parts zgj
 have HLN := lh9 hA.len
 have hR := hA.1
 clear hA
 obtain ⟨Z,hZ⟩ : ∃ Z,madeCells (Value.cells (.int .i64 0)) (n * i0.size) = Z := ⟨_,rfl⟩
 have HZ : Hid (Z.size = n) := by show _ = _; rw [← hZ,size_madeCells,hz1,Nat.mul_one]
 have hmk : ∀ W : World,(Instr.makeSlice 35 (.int .i64 (n : Int)) (.int .i64 (n : Int))).run Tryz.prog W = .ok (.slice (some ⟨W.heap.size,0,none⟩) n n) (W.alloc (.cells Z 3)) := fun W => by
  rw [← hZ]; exact zbd _ _ i0 _ Tryz.underlying35 hi0 hz0 _ _ n n (Nat.le_refl _) (by rw [hz2]; omega) (by omega) W
 clear hZ
 go_enter Tryz.func122,Tryz.ntmps122
 go_wp2
 clear hmk
 go_loopg [7,8,9] (n + 1) (fun g s i _ wr => ∃ (k left : Nat) (cs : Array Value) (out : List Nat),k ≤ n ∧ k < g ∧ i = .int .i64 ((k : Int) - 1) ∧ s = .int .i64 left ∧ zdq x mm n k out left ∧
   Blk wr w.heap.size 3 cs ∧ cs.size = n ∧ cs.toList.drop k = zas .i64 out ∧ Below w.heap.size w wr)
 case atStart => exact ⟨n,0,Z,[],Nat.le_refl _,by omega,rfl,rfl,zdq.start hm0 (by have := HLN.out; omega),Blk.new w _ _,HZ.out,by rw [List.drop_of_length_le (by have := HZ.out; simp; omega)]; rfl,(Below.refl _ _).alloc (Nat.le_refl _) _⟩
 case round =>
  obtain ⟨k,left,cs,out,hk,hg,rfl,rfl,hat,hB,hsz,hdr,hbl⟩ := hrel
  by_cases hk0 : k = 0
  ·subst hk0
   obtain ⟨f1,f2⟩ := hat.done
   have hlen : out.length = n := by have := hat.len; omega
   have hrd : zaq wr wr.heap.size 1 (some ⟨w.heap.size,0,none⟩) n (zas .i64 out) := by
    refine ⟨by rw [zav]; omega,fun _ => ⟨_,rfl,hB.lt,fun j u hu => ?_⟩⟩
    have e : (⟨w.heap.size,0,none⟩ : Addr).add j = ⟨w.heap.size,j,none⟩ := by unfold Addr.add; split <;> simp_all
    rw [e,hB.cell j,← Array.getElem?_toList]
    rw [List.drop_zero] at hdr
    rw [hdr]; exact hu
   have T := zfn (some ⟨w.heap.size,0,none⟩) n n out wr hrd hat.dgs (Nat.le_refl _) (by omega) (by omega)
   rw [f1] at T
   have HT := lh9 T
   have F2 := lh9 f2
   clear T hrd f1 f2 hat hdr hsz hlen
   go_wp2_with fail
   refine HT.out.mono ?_
   intro e w2 hg2
   have hg3 := hg2.from_ hbl
   obtain ⟨A2,n2,c2,rfl,hh2,hb2⟩ := hg2.elim
   have HG3 := lh9 hg3
   clear hg2 hh2 hb2 hg3
   go_wp2_with fail
   go_ret2
   exact ⟨_,by rw [← F2.out]; rfl,HG3.out⟩
  ·obtain ⟨j,rfl⟩ : ∃ j,k = j + 1 := ⟨k - 1,by omega⟩
   obtain ⟨ad,rfl,hadb,hc0⟩ := zbc hR (k := j) (by omega)
   have hc1 : wr.cell? (ad.add j) = some (.int .i64 ((dg 65536 x).getD j 0 : Nat)) := (hbl.cell (by rw [zaQ]; exact hadb)).trans hc0
   rw [zei] at hc1
   have ha1 : x / 65536 ^ j % 65536 < 65536 := Nat.mod_lt _ (by decide)
   have hst := hat.step hk rfl
   have hleft := hat.rest
   obtain ⟨a,ha⟩ : ∃ b,x / 65536 ^ j % 65536 = b := ⟨_,rfl⟩
   rw [ha] at hc1 ha1 hst
   have hfr := hB.frozen j
   have hcell : ∃ u,wr.cell? ⟨w.heap.size,j,none⟩ = some u := by
    rw [hB.cell j]
    exact ⟨cs[j]'(by omega),Array.getElem?_eq_getElem (by omega)⟩
   obtain ⟨u,hu⟩ := hcell
   have HST := lh9 hst
   have HS := lh9 hsz
   have HD := lh9 hdr
   clear hst ha hat hc0 hsz hdr
   go_wp2
   go_roundg (j + 1)
   case measure => omega
   case rel => exact ⟨j,(left * 65536 + a) % mm,cs.setIfInBounds j (.int .i64 (((left : Int) * 65536 + (a : Int)) / (mm : Int))),_,by omega,by omega,by go_num,by go_num,HST.out,hB.set_ _ _,by simpa using HS.out,by rw [drop_set _ _ _ (by have := HS.out; omega),HD.out]; simp [zas],hbl.setCell (Nat.le_refl _) _⟩
end Go.Proofs.YtgigccjiblaefaaGreatDoor
namespace Go.Proofs.YtgigccjiblaefaaGreatDoor
open Go Go.RowKit
set_option maxHeartbeats 16000000
set_option maxRecDepth 100000
set_option linter.unusedVariables false
set_option linter.unusedSimpArgs false
def BackD (b x y : Nat) (D : List Nat) : Prop := D ++ dg b y = dg b x
theorem BackD.step {b x y : Nat} {D : List Nat} (h : BackD b x y D) (hb : 2 ≤ b) (hy : y ≠ 0) : BackD b x (y / b) (D ++ [y % b]) := by
 unfold BackD at h ⊢
 rw [← h,zdb hb hy,List.append_assoc]
 rfl
end Go.Proofs.YtgigccjiblaefaaGreatDoor
namespace Go.Proofs.YtgigccjiblaefaaGreatDoor
open Go Go.RowKit
set_option maxHeartbeats 16000000
set_option maxRecDepth 100000
set_option linter.unusedVariables false
end Go.Proofs.YtgigccjiblaefaaGreatDoor
namespace Go.Proofs.YtgigccjiblaefaaGreatDoor
open Go Go.RowKit
set_option maxHeartbeats 16000000
set_option maxRecDepth 100000
set_option linter.unusedVariables false
end Go.Proofs.YtgigccjiblaefaaGreatDoor
namespace Go.Proofs.YtgigccjiblaefaaGreatDoor
open Go Go.RowKit
set_option maxHeartbeats 16000000
set_option linter.unusedVariables false
def zcf (w : World) (x : Nat) (e : Ending) (w' : World) : Prop := ∃ (A : oA9) (n c : Nat),e = .returned (.agg #[.slice A n c]) ∧ zah w' x A n c ∧ Below w.heap.size w w'
def zhG (w : World) (x y : Nat) (e : Ending) (w' : World) : Prop := ∃ (A : oA9) (n c : Nat) (B : oA9) (m d : Nat),e = .returned (.tuple #[.agg #[.slice A n c],.agg #[.slice B m d]]) ∧ zah w' x A n c ∧ zah w' y B m d ∧ Below w.heap.size w w'
def copB (x y : Nat) : Bool := decide (Nat.gcd x y = 1)
theorem Sz.gcd {K K' x y : Nat} (h : Sz K x) (h' : Sz K' y) : Sz (K + K') (Nat.gcd x y) := by
 rcases Nat.eq_zero_or_pos x with e | e
 ·rw [e,Nat.gcd_zero_left]; exact h'.up (by omega)
 ·exact (h.of_le (Nat.gcd_le_left y e)).up (by omega)
structure GcdC : Prop where
 of : ∀ (x y : Nat) (A D : oA9) (n m c d : Nat) (w : World),zah w x A n c → zah w y D m d → n ≤ 1073741824 → m ≤ 1073741824 → zao w → Calls Tryz.prog 89 #[.agg #[.slice A n c],.agg #[.slice D m d]] w (zcf w (Nat.gcd x y))
 coprime : ∀ (x y : Nat) (A D : oA9) (n m c d : Nat) (w : World),zah w x A n c → zah w y D m d → n ≤ 1073741824 → m ≤ 1073741824 → zao w → Calls Tryz.prog 46 #[.agg #[.slice A n c],.agg #[.slice D m d]] w fun e w' => e = .returned (.bool (copB x y)) ∧ Below w.heap.size w w'
 reduce : ∀ (x y : Nat) (A D : oA9) (n m c d : Nat) (w : World),zah w x A n c → zah w y D m d → n ≤ 1073741824 → m ≤ 1073741824 → zao w → Calls Tryz.prog 58 #[.agg #[.slice A n c],.agg #[.slice D m d]] w (zhG w (x / Nat.gcd x y) (y / Nat.gcd x y))
end Go.Proofs.YtgigccjiblaefaaGreatDoor
