/- What this claim leans on. -/
import Derived.Test.YtfieheffipfahaaGreatDoorXMeet3
import Derived.Test.YtfieheffipfahaaGreatDoorXBun7b
import Derived.Laws.Slices
namespace Go.Proofs.YtfieheffipfahaaGreatDoor
open Go Go.RowKit
set_option maxHeartbeats 16000000
set_option maxRecDepth 100000
set_option linter.unusedVariables false
set_option linter.unusedSimpArgs false
def zat (w : World) (l : List Nat) (A : oA9) (n c : Nat) : Prop := zan w w.heap.size 1 A n (zar .u8 l) ∧ Dgs 256 l ∧ n ≤ c ∧ c ≤ 9223372036854775807
theorem zat.below {w w' : World} {l : List Nat} {A : oA9} {n c : Nat} (h : zat w l A n c) (hb : Below w.heap.size w w') : zat w' l A n c := ⟨(h.1.below hb).more hb.size,h.2⟩
theorem zat.len {w : World} {l : List Nat} {A : oA9} {n c : Nat} (h : zat w l A n c) : l.length = n := h.1.len_
theorem zku (w : World) : (sizeOf (Tryz.prog.elem 42)).run Tryz.prog w = .ok 1 w := by kernel_rfl
theorem zjd (k : Nat) (l : List Nat) : (zar .u8 l).drop k = zar .u8 (l.drop k) := by unfold zar; rw [List.map_drop]
theorem zjz (k : Nat) (l : List Nat) : (zar .u8 l).take k = zar .u8 (l.take k) := by unfold zar; rw [List.map_take]
theorem ziC {w : World} {B n k : Nat} {A : oA9} {xs : List Value} (h : zan w B 1 A n xs) (hk : k ≤ n) : zan w B 1 A k (xs.take k) := by
 refine ⟨by rw [List.length_take,h.1]; omega,fun h0 => ?_⟩
 obtain ⟨ad,e,hb,hc⟩ := h.2 (by omega)
 refine ⟨ad,e,hb,fun j u hu => hc j u ?_⟩
 rw [List.getElem?_take] at hu
 split at hu
 ·exact hu
 ·cases hu
theorem zhF {n c k : Nat} (A : oA9) (hk : k ≤ n) : ∃ A',(∀ w,(Instr.slice 42 (.slice A n c) (some (.int .i64 (k : Int))) none none).run Tryz.prog w = .ok (.slice A' (n - k) (c - k)) w) ∧ ∀ w l,zat w l A n c → zat w (l.drop k) A' (n - k) (c - k) := by
 refine ⟨if c = k then A else A.map (·.add (k * 1)),fun w => ?_,fun w l h => ⟨?_,fun d hd => h.2.1 d (List.mem_of_mem_drop hd),by have := h.2.2; omega,by have := h.2.2; omega⟩⟩
 ·rw [run_slice_l w 42 A n c Tryz.underlying42 .i64 (k : Int) (by omega) (by omega),zku]
  simp [sliced,Result.andThen]
 ·have h1 := h.1.cut (k := k) (cap := c) hk h.2.2.1
  rw [Nat.mul_one,zjd] at h1
  rw [Nat.mul_one]
  exact h1
theorem zfM {n c m : Nat} (A : oA9) (hm : m ≤ n) (hc : n ≤ c) : ∃ A',(∀ w,(Instr.slice 42 (.slice A n c) none (some (.int .i64 (m : Int))) none).run Tryz.prog w = .ok (.slice A' m c) w) ∧ ∀ w l,zat w l A n c → zat w (l.take m) A' m c := by
 refine ⟨if c = 0 then A else A.map (·.add (0 * 1)),fun w => ?_,fun w l h => ⟨?_,fun d hd => h.2.1 d (List.mem_of_mem_take hd),by omega,h.2.2.2⟩⟩
 ·rw [run_slice_h w 42 A n c Tryz.underlying42 .i64 (m : Int) (by omega) (by omega),zku]
  simp [sliced,Result.andThen]
 ·have h1 := (h.1.cut (k := 0) (cap := c) (by omega) h.2.2.1)
  rw [Nat.zero_mul,List.drop_zero,Nat.sub_zero] at h1
  have h2 := ziC h1 hm
  rw [zjz] at h2
  rw [Nat.zero_mul]
  exact h2
theorem znS {n c k m : Nat} (A : oA9) (hk : k ≤ m) (hm : m ≤ n) (hc : n ≤ c) : ∃ A',(∀ w,(Instr.slice 42 (.slice A n c) (some (.int .i64 (k : Int))) (some (.int .i64 (m : Int))) none).run Tryz.prog w = .ok (.slice A' (m - k) (c - k)) w) ∧ ∀ w l,zat w l A n c → zat w ((l.drop k).take (m - k)) A' (m - k) (c - k) := by
 refine ⟨if c = k then A else A.map (·.add (k * 1)),fun w => ?_,fun w l h => ⟨?_,fun d hd => h.2.1 d (List.mem_of_mem_drop (List.mem_of_mem_take hd)),by omega,by have := h.2.2; omega⟩⟩
 ·rw [run_slice_lh w 42 A n c Tryz.underlying42 .i64 .i64 (k : Int) (m : Int) (by omega) (by omega) (by omega),zku]
  simp [sliced,Result.andThen]
 ·have h1 := h.1.cut (k := k) (cap := c) (by omega) h.2.2.1
  rw [Nat.mul_one,zjd] at h1
  have h2 := ziC h1 (show m - k ≤ n - k by omega)
  rw [zjz] at h2
  rw [Nat.mul_one]
  exact h2
theorem zat.first {w : World} {l : List Nat} {A : oA9} {n c : Nat} (h : zat w l A n c) (hn : 0 < n) : ∃ (gb ob : Nat) (ib : Option Nat),A = some ⟨gb,ob,ib⟩ ∧ gb < w.heap.size ∧ l.getD 0 0 < 256 ∧ w.cell? ⟨gb,ob,ib⟩ = some (.int .u8 (l.getD 0 0 : Nat)) := by
 obtain ⟨ad,e,hb,hc⟩ := zcq h.1 (k := 0) hn
 rw [zgn] at hc
 exact ⟨ad.block,ad.off,ad.spot,e,hb,h.2.1.getD (by decide) 0,hc⟩
def zgk (w : World) (x : Nat) (k : Nat) (e : Ending) (w' : World) : Prop := ∃ (A : oA9) (n c : Nat),e = .returned (.tuple #[.agg #[.slice A n c],.int .i64 (k : Int),.nilIface]) ∧ zaf w' x A n c ∧ Below w.heap.size w w'
def zeq (w : World) (er : Er) (e : Ending) (w' : World) : Prop := ∃ (et : TypeId) (ex : Value),e = .returned (.tuple #[.agg #[.slice none 0 0],.int .i64 0,.iface et ex]) ∧ zbO w' er (.iface et ex) ∧ Below w.heap.size w w'
def zaY (w : World) (t : Er × Rat × Nat) (e : Ending) (w' : World) : Prop := ∃ (b : Bool) (A : oA9) (n c : Nat) (E : oA9) (k f : Nat) (ev : Value),e = .returned (.tuple #[.agg #[.bool b,.slice A n c,.slice E k f],.int .i64 (t.2.2 : Nat),ev]) ∧ zay w' t.2.1 b A n c E k f ∧ zbO w' t.1 ev ∧ Below w.heap.size w w'
def zcL (w : World) (t : Er × Rat) (e : Ending) (w' : World) : Prop := ∃ (b : Bool) (A : oA9) (n c : Nat) (E : oA9) (k f : Nat) (ev : Value),e = .returned (.tuple #[.agg #[.bool b,.slice A n c,.slice E k f],ev]) ∧ zay w' t.2 b A n c E k f ∧ zbO w' t.1 ev ∧ Below w.heap.size w w'
theorem gp1 {w W : World} {x k g : Nat} {t : TypeId} {A : oA9} {n c : Nat} {q : oA9} {r s : Nat} {kz : Int} (h : zaf W x A n c) (hz : kz = (k : Int)) (kd : Blk W g t #[.slice q r s]) (hB : Below w.heap.size w W) (hg : w.heap.size ≤ g) : zgk w x k (.returned (.tuple #[.agg #[.slice A n c],.int .i64 kz,.nilIface])) (W.setCell ⟨g,0,none⟩ (.slice A n c)) :=
 ⟨_,_,_,by rw [hz],zag h kd (NoU.s1 _ _ _) (zaL _ _ _),bl1 _ hg hB⟩
theorem gp0 {w W : World} {er : Er} {g : Nat} {t : TypeId} {et : TypeId} {ex : Value} {q : oA9} {r s : Nat} (h : zbO W er (.iface et ex)) (kd : Blk W g t #[.slice q r s]) (hB : Below w.heap.size w W) (hg : w.heap.size ≤ g) : zeq w er (.returned (.tuple #[.agg #[.slice none 0 0],.int .i64 0,.iface et ex])) (W.setCell ⟨g,0,none⟩ (.slice none 0 0)) :=
 ⟨_,_,rfl,zdd h kd (NoU.s1 _ _ _) (zaL _ _ _),bl1 _ hg hB⟩
theorem gd3 {w W : World} {er : Er} {R : Rat} {N : Nat} {g : Nat} {t : TypeId} {b : Bool} {A E : oA9} {n c k f : Nat} {p : Bool} {q q2 : oA9} {r1 s r2 s2 : Nat} {ev : Value} {nz : Int} (h : zay W R b A n c E k f) (he : zbO W er ev) (hn : nz = (N : Int)) (kd : Blk W g t #[.bool p,.slice q r1 s,.slice q2 r2 s2]) (hB : Below w.heap.size w W) (hg : w.heap.size ≤ g) : zaY w (er,R,N) (.returned (.tuple #[.agg #[.bool b,.slice A n c,.slice E k f],.int .i64 nz,ev])) (((W.setCell ⟨g,0,none⟩ (.bool b)).setCell ⟨g,1,none⟩ (.slice A n c)).setCell ⟨g,2,none⟩ (.slice E k f)) :=
 ⟨_,_,_,_,_,_,_,_,by rw [hn],zaZ h kd (NoU.s3 _ _ _ _ _ _ _) (zca _ _ _ _ _),zdd he kd (NoU.s3 _ _ _ _ _ _ _) (zca _ _ _ _ _),bl3 _ _ _ hg hB⟩
theorem gr9 {w W : World} {er : Er} {R : Rat} {g : Nat} {t : TypeId} {b : Bool} {A E : oA9} {n c k f : Nat} {p : Bool} {q q2 : oA9} {r1 s r2 s2 : Nat} {ev : Value} (h : zay W R b A n c E k f) (he : zbO W er ev) (kd : Blk W g t #[.bool p,.slice q r1 s,.slice q2 r2 s2]) (hB : Below w.heap.size w W) (hg : w.heap.size ≤ g) : zcL w (er,R) (.returned (.tuple #[.agg #[.bool b,.slice A n c,.slice E k f],ev])) (((W.setCell ⟨g,0,none⟩ (.bool b)).setCell ⟨g,1,none⟩ (.slice A n c)).setCell ⟨g,2,none⟩ (.slice E k f)) :=
 ⟨_,_,_,_,_,_,_,_,rfl,zaZ h kd (NoU.s3 _ _ _ _ _ _ _) (zca _ _ _ _ _),zdd he kd (NoU.s3 _ _ _ _ _ _ _) (zca _ _ _ _ _),bl3 _ _ _ hg hB⟩
theorem zaG (t : TypeId) (x : Value) (w : World) : (binOp .neq 44 (.iface t x) .nilIface).run Tryz.prog w = .ok (.bool true) w := run_neq_iface_nil w 44 (by kernel_rfl) t x
theorem zaH (w : World) : (binOp .neq 44 .nilIface .nilIface).run Tryz.prog w = .ok (.bool false) w := run_neq_nil_nil_at w 44 (by kernel_rfl)
theorem zfR {T : World → Prop} (IC : IntC T) (s : Bool) (x : Nat) (A : oA9) (n c : Nat) (w : World) (hT : T w) (h : zaf w x A n c) (hn : n ≤ 268435456) : Calls Tryz.prog 38 #[.bool s,.agg #[.slice A n c]] w (zbY w (sg9 s x)) := IC.new s x A n c w hT h hn
theorem zcT (z : Int) : Rat.divInt z ((1 : Nat) : Int) = (z : Rat) ∧ (Rat.divInt z ((1 : Nat) : Int)).den = 1 := by
 have e : Rat.divInt z ((1 : Nat) : Int) = (z : Rat) := by
  have h := Rat.num_divInt_den (z : Rat)
  rw [Rat.num_intCast,Rat.den_intCast] at h
  exact h
 exact ⟨e,by rw [e]; exact Rat.den_intCast _⟩
theorem zgR : Rat.divInt (sg9 false 0) ((1 : Nat) : Int) = 0 ∧ decide ((Rat.divInt (sg9 false 0) ((1 : Nat) : Int)).den = 1) = true := ⟨(zcT _).1,decide_eq_true (zcT _).2⟩
theorem zcR (n : Int) (w : World) : zbO w (.bare n) (.iface 47 (.int .i64 n)) := rfl
theorem zee (w : World) : zbO w .no .nilIface := rfl
theorem ziz (z : Int) (baa : Bool) (Baa : oA9) (maa daa : Nat) (w : World) (hT : zaj w) (haa : zaz w z baa Baa maa daa) (qaa : maa ≤ 268435456) :
  Calls Tryz.prog 71 #[.agg #[.bool baa,.slice Baa maa daa]] w (zbY w z) := by
 have HIC := lh9 (zba (T := zaj))
 have HGC := lh9 zdt
 have HT := lh9 (fun w' (hb : Below w.heap.size w w') => hT.on hb)
 have HTB := HT
 obtain ⟨K,hKe⟩ : ∃ K,268435456 = K := ⟨_,rfl⟩
 have hKK : K ≤ 268435456 := by omega
 have hK0 : 0 < K := by omega
 have HV := lh9 (zow z)
 obtain ⟨sb,hsb⟩ : ∃ s,decide (z < 0) = s := ⟨_,rfl⟩
 rw [hsb] at HV
 have HSB := lh9 hsb
 clear hsb
 have HNaa := lh9 (fun w' (b : Below w.heap.size w w') => haa.below b)
 have HZaa : Hid (Sz K z.natAbs) := Sz.of_words haa.words (by omega)
 clear haa qaa
 clear hT hKe
 go_enter Tryz.func71,Tryz.ntmps71
 have hB := Below.refl w.heap.size w
 obtain ⟨bx1,bx2,bx3,bz⟩ := zcm w 31 31 #[.bool baa,.slice Baa maa daa] #[.bool false,.slice none 0 0]
 have hB := zaa hB bx1
 obtain ⟨g1,e1⟩ := bx2.c2
 have k2 := bx3
 clear bx1 bx2 bx3 bz
 go_wp2_with fail
 generalize (w.alloc (.cells #[.bool baa,.slice Baa maa daa] 31)).alloc (.cells #[.bool false,.slice none 0 0] 31) = W1 at *
 have C0 := lh9 (fun w' (h : Below W1.heap.size W1 w') => zbc (HSB.out) (HIC.out.belowI (z) baa Baa maa daa w' (HT.out _ (zaa hB h)) (HNaa.out _ (zaa hB h)) (szi HZaa (HNaa.out _ hB))))
 have HZ3 : Hid (Sz (K) (z.natAbs)) := HZaa.out
 have C1 := lh9 (fun w' (h : Below W1.heap.size W1 w') => HIC.out.abs (z) baa Baa maa daa w' (HT.out _ (zaa hB h)) (HNaa.out _ (zaa hB h)) (szi HZaa (HNaa.out _ hB)))
 have HZ4 : Hid (Sz (K) (zcp sb z.natAbs).natAbs) := (by rw [zeL]; exact HZ3.out)
 have C2 := lh9 (fun w' (h : Below W1.heap.size W1 w') B3 m3 d3 (hw3 : zaf w' (z.natAbs) B3 m3 d3) => HIC.out.new sb (z.natAbs) B3 m3 d3 w' (HT.out _ (zaa hB h)) hw3 (szw HZ3 hw3))
 have hBw := (Below.refl W1.heap.size W1).drew
 refine rg (csc g1 (csc e1 csn)) (fun hHeld => ?_)
 refine tk 0 ?_
 refine tk 2 ?_
 refine rc 1 (fun K hK => ?_)
 go_simp
 go_at_call 83; (with_reducible refine (C0.out _ hBw).mono ?_); rintro e wa2 ⟨rfl,hb⟩; have hBw := zaa hBw hb; refine hK.out _ _ (Cs.below hHeld hb) (fun hHeld => ?_); clear hK K hb
 try simp only [sb9]
 refine rc 3 (fun K hK => ?_)
 go_simp
 go_at_call 28; (with_reducible refine (C1.out _ hBw).mono ?_); rintro e wa3 ⟨B3,m3,d3,rfl,hw3,hb⟩; have hBw := zaa hBw hb; refine hK.out _ _ (Cs.below hHeld hb) (fun hHeld => ?_); clear hK K hb
 try simp only [sb9]
 refine rc 4 (fun K hK => ?_)
 go_simp
 go_at_call 38; (with_reducible refine (C2.out _ hBw _ _ _ hw3).mono ?_); rintro e wa4 ⟨b4,B4,m4,d4,rfl,hw4,hb⟩; have hBw := zaa hBw hb; have hw3 := hw3.below hb; refine hK.out _ _ (Cs.below hHeld hb) (fun hHeld => ?_); clear hK K hb
 try simp only [sb9]
 obtain ⟨sc0,sf0,sc1,sf1⟩ := st2 (zac hBw k2) (.bool b4)
 refine rc 5 (fun K hK => ?_)
 go_simp
 refine hK.out _ _ (cs2 (.bool b4) (.slice B4 m4 d4) hHeld) (fun hHeld => ?_); clear hK K
 try simp only [sb9]
 refine rdn ?_
 have hB := zaa hB hBw
 have g1 := zab hBw g1
 have e1 := zab hBw e1
 have k2 := zac hBw k2
 have HN3 := lh9 hw3
 have HN4 := lh9 hw4
 clear hBw hHeld hw3 hw4 C0 C1 C2
 obtain ⟨r0,r1⟩ := (sn2 k2 (.bool b4) (.slice B4 m4 d4)).c2
 have HG := lh9 (gi2 (zaz.to8 HV.out HN4.out) k2 hB (by omega))
 go_wp2
 refine bodyPost_ret (v := .agg #[.bool b4,.slice B4 m4 d4]) (by simp [results,Tryz.results71,go_sem,r0,r1]) rfl ?_
 exact HG.out
theorem zlN (r : Rat) (baa : Bool) (Baa : oA9) (maa daa : Nat) (Eaa : oA9) (uaa vaa : Nat) (w : World) (hT : zaj w) (haa : zay w r baa Baa maa daa Eaa uaa vaa) (qaa : zbD maa uaa) (hd : r.den = 1) :
  Calls Tryz.prog 31 #[.agg #[.bool baa,.slice Baa maa daa,.slice Eaa uaa vaa]] w (fun e w' => e = .returned (.bool true) ∧ Below w.heap.size w w') := by
 have HIC := lh9 (zba (T := zaj))
 have HGC := lh9 zdt
 have HT := lh9 (fun w' (hb : Below w.heap.size w w') => hT.on hb)
 have HTB := HT
 obtain ⟨K,hKe⟩ : ∃ K,67108864 = K := ⟨_,rfl⟩
 have hKK : K ≤ 67108864 := by omega
 have hK0 : 0 < K := by omega
 have HNaa := lh9 (fun w' (b : Below w.heap.size w w') => haa.below b)
 obtain ⟨xaa,hxaa,hxwaa⟩ := haa.2
 have HXaa := lh9 hxaa
 have HZaa : Hid (SzQ K r) := zbr haa qaa hKe
 have HZaap : Hid (Sz K r.num.natAbs) := HZaa.out.num
 have HZaaq : Hid (Sz K xaa) := zaS HZaa.out.den hxaa
 have HNaap := lh9 (fun w' (b : Below w.heap.size w w') => haa.1.below b)
 have HNaaq := lh9 (fun w' (b : Below w.heap.size w w') => hxwaa.below b)
 clear haa qaa hxaa hxwaa
 have HX0 := lh9 (zfy HXaa.out hd)
 clear hT hKe hd
 go_enter Tryz.func31,Tryz.ntmps31
 have hB := Below.refl w.heap.size w
 obtain ⟨bx1,bx2,bz⟩ := zav w 33 #[.bool baa,.slice Baa maa daa,.slice Eaa uaa vaa]
 have hB := zaa hB bx1
 obtain ⟨g1,e1,i1⟩ := bx2.c3
 clear bx1 bx2 bz
 go_wp2_with fail
 generalize w.alloc (.cells #[.bool baa,.slice Baa maa daa,.slice Eaa uaa vaa] 33) = W1 at *
 (with_reducible refine (zbU HX0.out (HNaaq.out _ hB)).mono ?_)
 rintro e wc2 ⟨rfl,hb⟩
 have hB := zaa hB hb
 have g1 := zab hb g1
 have e1 := zab hb e1
 have i1 := zab hb i1
 clear hb 
 go_wp2
 go_ret
 exact ⟨by first | rfl | simp,hB⟩
theorem zlM (r : Rat) (baa : Bool) (Baa : oA9) (maa daa : Nat) (Eaa : oA9) (uaa vaa : Nat) (w : World) (hT : zaj w) (haa : zay w r baa Baa maa daa Eaa uaa vaa) (qaa : zbD maa uaa) (hd : r.den ≠ 1) :
  Calls Tryz.prog 31 #[.agg #[.bool baa,.slice Baa maa daa,.slice Eaa uaa vaa]] w (fun e w' => e = .returned (.bool false) ∧ Below w.heap.size w w') := by
 have HIC := lh9 (zba (T := zaj))
 have HGC := lh9 zdt
 have HT := lh9 (fun w' (hb : Below w.heap.size w w') => hT.on hb)
 have HTB := HT
 obtain ⟨K,hKe⟩ : ∃ K,67108864 = K := ⟨_,rfl⟩
 have hKK : K ≤ 67108864 := by omega
 have hK0 : 0 < K := by omega
 have HNaa := lh9 (fun w' (b : Below w.heap.size w w') => haa.below b)
 obtain ⟨xaa,hxaa,hxwaa⟩ := haa.2
 have HXaa := lh9 hxaa
 have HZaa : Hid (SzQ K r) := zbr haa qaa hKe
 have HZaap : Hid (Sz K r.num.natAbs) := HZaa.out.num
 have HZaaq : Hid (Sz K xaa) := zaS HZaa.out.den hxaa
 have HNaap := lh9 (fun w' (b : Below w.heap.size w w') => haa.1.below b)
 have HNaaq := lh9 (fun w' (b : Below w.heap.size w w') => hxwaa.below b)
 clear haa qaa hxaa hxwaa
 have HX0 := lh9 (zdF HXaa.out hd).1
 clear hT hKe hd
 go_enter Tryz.func31,Tryz.ntmps31
 have hB := Below.refl w.heap.size w
 obtain ⟨bx1,bx2,bz⟩ := zav w 33 #[.bool baa,.slice Baa maa daa,.slice Eaa uaa vaa]
 have hB := zaa hB bx1
 obtain ⟨g1,e1,i1⟩ := bx2.c3
 clear bx1 bx2 bz
 go_wp2_with fail
 generalize w.alloc (.cells #[.bool baa,.slice Baa maa daa,.slice Eaa uaa vaa] 33) = W1 at *
 (with_reducible refine (zbN HX0.out (HNaaq.out _ hB)).mono ?_)
 rintro e wc2 ⟨rfl,hb⟩
 have hB := zaa hB hb
 have g1 := zab hb g1
 have e1 := zab hb e1
 have i1 := zab hb i1
 clear hb 
 go_wp2
 go_ret
 exact ⟨by first | rfl | simp,hB⟩
theorem zbi (r : Rat) (baa : Bool) (Baa : oA9) (maa daa : Nat) (Eaa : oA9) (uaa vaa : Nat) (w : World) (hT : zaj w) (haa : zay w r baa Baa maa daa Eaa uaa vaa) (qaa : zbD maa uaa) :
  Calls Tryz.prog 31 #[.agg #[.bool baa,.slice Baa maa daa,.slice Eaa uaa vaa]] w (fun e w' => e = .returned (.bool (decide (r.den = 1))) ∧ Below w.heap.size w w') := by
 by_cases hd : r.den = 1
 ·rw [decide_eq_true hd]; exact zlN r baa Baa maa daa Eaa uaa vaa w hT haa qaa hd
 ·rw [decide_eq_false hd]; exact zlM r baa Baa maa daa Eaa uaa vaa w hT haa qaa hd
end Go.Proofs.YtfieheffipfahaaGreatDoor
