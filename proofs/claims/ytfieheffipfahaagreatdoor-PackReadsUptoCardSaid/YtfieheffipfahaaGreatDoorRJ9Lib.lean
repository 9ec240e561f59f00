/- What this claim leans on. -/
import Derived.Test.YtfieheffipfahaaGreatDoorRW7LikeQ
import Derived.Laws.Slices
namespace Go.Proofs.YtfieheffipfahaaGreatDoor
open Go Go.RowKit
set_option maxHeartbeats 16000000
set_option maxRecDepth 100000
set_option linter.unusedVariables false
set_option linter.unusedSimpArgs false
def zaB (w : World) (l : List Nat) (A : oA9) (n c : Nat) : Prop:=zas w w.heap.size 1 A n (zaq .u8 l) ∧ Dgs 256 l ∧ n ≤ c ∧ c ≤ 9223372036854775807
theorem zaB.below {w w' : World} {l : List Nat} {A : oA9} {n c : Nat} (h : zaB w l A n c) (hb : Below w.heap.size w w') : zaB w' l A n c:=⟨(h.1.below hb).more hb.size,h.2⟩
theorem zaB.len {w : World} {l : List Nat} {A : oA9} {n c : Nat} (h : zaB w l A n c) : l.length = n:=h.1.len_
theorem zoX (w : World) : (sizeOf (Tryz.prog.elem 42)).run Tryz.prog w = .ok 1 w:=by kernel_rfl
theorem zjV (k : Nat) (l : List Nat) : (zaq .u8 l).drop k = zaq .u8 (l.drop k):=by unfold zaq; rw [List.map_drop]
theorem zqb (k : Nat) (l : List Nat) : (zaq .u8 l).take k = zaq .u8 (l.take k):=by unfold zaq; rw [List.map_take]
theorem zor {w : World} {B n k : Nat} {A : oA9} {xs : List Value} (h : zas w B 1 A n xs) (hk : k ≤ n) : zas w B 1 A k (xs.take k):=by
 refine ⟨by rw [List.length_take,h.1]; omega,fun h0 => ?_⟩
 obtain ⟨ad,e,hb,hc⟩:=h.2 (by omega)
 refine ⟨ad,e,hb,fun j u hu => hc j u ?_⟩
 rw [List.getElem?_take] at hu
 split at hu
 ·exact hu
 ·cases hu
theorem zis {n c k : Nat} (A : oA9) (hk : k ≤ n) : ∃ A',(∀ w,(Instr.slice 42 (.slice A n c) (some (.int .i64 (k : Int))) none none).run Tryz.prog w = .ok (.slice A' (n - k) (c - k)) w) ∧ ∀ w l,zaB w l A n c → zaB w (l.drop k) A' (n - k) (c - k):=by
 refine ⟨if c = k then A else A.map (·.add (k * 1)),fun w => ?_,fun w l h => ⟨?_,fun d hd => h.2.1 d (List.mem_of_mem_drop hd),by have:=h.2.2; omega,by have:=h.2.2; omega⟩⟩
 ·rw [run_slice_l w 42 A n c Tryz.underlying42 .i64 (k : Int) (by omega) (by omega),zoX]
  simp [sliced,Result.andThen]
 ·have h1:=h.1.cut (k:=k) (cap:=c) hk h.2.2.1
  rw [Nat.mul_one,zjV] at h1
  rw [Nat.mul_one]
  exact h1
theorem zjS {n c k m : Nat} (A : oA9) (hk : k ≤ m) (hm : m ≤ n) (hc : n ≤ c) : ∃ A',(∀ w,(Instr.slice 42 (.slice A n c) (some (.int .i64 (k : Int))) (some (.int .i64 (m : Int))) none).run Tryz.prog w = .ok (.slice A' (m - k) (c - k)) w) ∧ ∀ w l,zaB w l A n c → zaB w ((l.drop k).take (m - k)) A' (m - k) (c - k):=by
 refine ⟨if c = k then A else A.map (·.add (k * 1)),fun w => ?_,fun w l h => ⟨?_,fun d hd => h.2.1 d (List.mem_of_mem_drop (List.mem_of_mem_take hd)),by omega,by have:=h.2.2; omega⟩⟩
 ·rw [run_slice_lh w 42 A n c Tryz.underlying42 .i64 .i64 (k : Int) (m : Int) (by omega) (by omega) (by omega),zoX]
  simp [sliced,Result.andThen]
 ·have h1:=h.1.cut (k:=k) (cap:=c) (by omega) h.2.2.1
  rw [Nat.mul_one,zjV] at h1
  have h2:=zor h1 (show m - k ≤ n - k by omega)
  rw [zqb] at h2
  rw [Nat.mul_one]
  exact h2
theorem zaB.first {w : World} {l : List Nat} {A : oA9} {n c : Nat} (h : zaB w l A n c) (hn : 0 < n) : ∃ (gb ob : Nat) (ib : Option Nat),A = some ⟨gb,ob,ib⟩ ∧ gb < w.heap.size ∧ l.getD 0 0 < 256 ∧ w.cell? ⟨gb,ob,ib⟩ = some (.int .u8 (l.getD 0 0 : Nat)):=by
 obtain ⟨ad,e,hb,hc⟩:=zbg h.1 (k:=0) hn
 rw [zdG] at hc
 exact ⟨ad.block,ad.off,ad.spot,e,hb,h.2.1.getD (by decide) 0,hc⟩
def zgW (w : World) (x : Nat) (k : Nat) (e : Ending) (w' : World) : Prop:=∃ (A : oA9) (n c : Nat),e = .returned (.tuple #[.agg #[.slice A n c],.int .i64 (k : Int),.nilIface]) ∧ zaf w' x A n c ∧ Below w.heap.size w w'
def zeY (w : World) (er : Er) (e : Ending) (w' : World) : Prop:=∃ (et : TypeId) (ex : Value),e = .returned (.tuple #[.agg #[.slice none 0 0],.int .i64 0,.iface et ex]) ∧ zcm w' er (.iface et ex) ∧ Below w.heap.size w w'
def zbd (w : World) (t : Er × Rat × Nat) (e : Ending) (w' : World) : Prop:=∃ (b : Bool) (A : oA9) (n c : Nat) (E : oA9) (k f : Nat) (ev : Value),e = .returned (.tuple #[.agg #[.bool b,.slice A n c,.slice E k f],.int .i64 (t.2.2 : Nat),ev]) ∧ zaF w' t.2.1 b A n c E k f ∧ zcm w' t.1 ev ∧ Below w.heap.size w w'
def zcX (w : World) (t : Er × Rat) (e : Ending) (w' : World) : Prop:=∃ (b : Bool) (A : oA9) (n c : Nat) (E : oA9) (k f : Nat) (ev : Value),e = .returned (.tuple #[.agg #[.bool b,.slice A n c,.slice E k f],ev]) ∧ zaF w' t.2 b A n c E k f ∧ zcm w' t.1 ev ∧ Below w.heap.size w w'
theorem gp1 {w W : World} {x k g : Nat} {t : TypeId} {A : oA9} {n c : Nat} {q : oA9} {r s : Nat} {kz : Int} (h : zaf W x A n c) (hz : kz = (k : Int)) (kd : Blk W g t #[.slice q r s]) (hB : Below w.heap.size w W) (hg : w.heap.size ≤ g) : zgW w x k (.returned (.tuple #[.agg #[.slice A n c],.int .i64 kz,.nilIface])) (W.setCell ⟨g,0,none⟩ (.slice A n c)) :=
 ⟨_,_,_,by rw [hz],zak h kd (NoU.s1 _ _ _) (zaP _ _ _),bl1 _ hg hB⟩
theorem gp0 {w W : World} {er : Er} {g : Nat} {t : TypeId} {et : TypeId} {ex : Value} {q : oA9} {r s : Nat} (h : zcm W er (.iface et ex)) (kd : Blk W g t #[.slice q r s]) (hB : Below w.heap.size w W) (hg : w.heap.size ≤ g) : zeY w er (.returned (.tuple #[.agg #[.slice none 0 0],.int .i64 0,.iface et ex])) (W.setCell ⟨g,0,none⟩ (.slice none 0 0)) :=
 ⟨_,_,rfl,zdD h kd (NoU.s1 _ _ _) (zaP _ _ _),bl1 _ hg hB⟩
theorem gd3 {w W : World} {er : Er} {R : Rat} {N : Nat} {g : Nat} {t : TypeId} {b : Bool} {A E : oA9} {n c k f : Nat} {p : Bool} {q q2 : oA9} {r1 s r2 s2 : Nat} {ev : Value} {nz : Int} (h : zaF W R b A n c E k f) (he : zcm W er ev) (hn : nz = (N : Int)) (kd : Blk W g t #[.bool p,.slice q r1 s,.slice q2 r2 s2]) (hB : Below w.heap.size w W) (hg : w.heap.size ≤ g) : zbd w (er,R,N) (.returned (.tuple #[.agg #[.bool b,.slice A n c,.slice E k f],.int .i64 nz,ev])) (((W.setCell ⟨g,0,none⟩ (.bool b)).setCell ⟨g,1,none⟩ (.slice A n c)).setCell ⟨g,2,none⟩ (.slice E k f)) :=
 ⟨_,_,_,_,_,_,_,_,by rw [hn],zbF h kd (NoU.s3 _ _ _ _ _ _ _) (zcy _ _ _ _ _),zdD he kd (NoU.s3 _ _ _ _ _ _ _) (zcy _ _ _ _ _),bl3 _ _ _ hg hB⟩
theorem gr9 {w W : World} {er : Er} {R : Rat} {g : Nat} {t : TypeId} {b : Bool} {A E : oA9} {n c k f : Nat} {p : Bool} {q q2 : oA9} {r1 s r2 s2 : Nat} {ev : Value} (h : zaF W R b A n c E k f) (he : zcm W er ev) (kd : Blk W g t #[.bool p,.slice q r1 s,.slice q2 r2 s2]) (hB : Below w.heap.size w W) (hg : w.heap.size ≤ g) : zcX w (er,R) (.returned (.tuple #[.agg #[.bool b,.slice A n c,.slice E k f],ev])) (((W.setCell ⟨g,0,none⟩ (.bool b)).setCell ⟨g,1,none⟩ (.slice A n c)).setCell ⟨g,2,none⟩ (.slice E k f)) :=
 ⟨_,_,_,_,_,_,_,_,rfl,zbF h kd (NoU.s3 _ _ _ _ _ _ _) (zcy _ _ _ _ _),zdD he kd (NoU.s3 _ _ _ _ _ _ _) (zcy _ _ _ _ _),bl3 _ _ _ hg hB⟩
theorem zaM (t : TypeId) (x : Value) (w : World) : (binOp .neq 44 (.iface t x) .nilIface).run Tryz.prog w = .ok (.bool true) w:=run_neq_iface_nil w 44 (by kernel_rfl) t x
theorem zaN (w : World) : (binOp .neq 44 .nilIface .nilIface).run Tryz.prog w = .ok (.bool false) w:=run_neq_nil_nil_at w 44 (by kernel_rfl)
theorem zgC {T : World → Prop} (IC : IntC T) (s : Bool) (x : Nat) (A : oA9) (n c : Nat) (w : World) (hT : T w) (h : zaf w x A n c) (hn : n ≤ 268435456) : Calls Tryz.prog 38 #[.bool s,.agg #[.slice A n c]] w (zcC w (sg9 s x)):=IC.new s x A n c w hT h hn
theorem zdc (z : Int) : Rat.divInt z ((1 : Nat) : Int) = (z : Rat) ∧ (Rat.divInt z ((1 : Nat) : Int)).den = 1:=by
 have e : Rat.divInt z ((1 : Nat) : Int) = (z : Rat):=by
  have h:=Rat.num_divInt_den (z : Rat)
  rw [Rat.num_intCast,Rat.den_intCast] at h
  exact h
 exact ⟨e,by rw [e]; exact Rat.den_intCast _⟩
theorem zhD : Rat.divInt (sg9 false 0) ((1 : Nat) : Int) = 0 ∧ decide ((Rat.divInt (sg9 false 0) ((1 : Nat) : Int)).den = 1) = true:=⟨(zdc _).1,decide_eq_true (zdc _).2⟩
theorem zdq (n : Int) (w : World) : zcm w (.bare n) (.iface 47 (.int .i64 n)):=rfl
theorem zeH (w : World) : zcm w .no .nilIface:=rfl
theorem in_block {w : World} {p : Addr} {u : Value} {f : Nat} {t : TypeId} {cs : Array Value} (hk : Blk w f t cs) (h0 : w.cell? p = some u) (hp : p.block = f) : u ∈ cs.toList:=by
 obtain ⟨bk,off,pr⟩:=p
 simp only at hp
 subst hp
 unfold Blk at hk
 cases pr with
 | none =>
   rw [show w.cell? ⟨bk,off,none⟩ = cs[off]? from cell_of_row w bk off _ t (0,0) hk,← Array.getElem?_toList] at h0
   exact List.mem_of_getElem? h0
 | some q => simp [World.cell?,hk] at h0
theorem zpA {w : World} {x : Nat} {A : oA9} {n c f : Nat} {t : TypeId} {s : ByteArray} (h : zai w x A n c) (k : Blk w f t #[.int .i64 0,.string s,.int .i64 0]) (hn : 0 < n) : ∀ ad,A = some ad → ad.block ≠ f:=by
 intro ad e hf
 obtain ⟨ad',e',_,hc⟩:=zbg h.1 (k:=n - 1) (by omega)
 rw [e] at e'
 injection e' with e'
 subst e'
 have hm:=in_block k hc (by rw [zaK]; exact hf)
 have hx : x ≠ 0:=fun hx => by have:=zen h hx; omega
 have hl:=h.len
 have hv:=zbZ (b:=65536) (by decide) x
 have hg:=(zeR (b:=65536) (by decide) x hx).2
 have ht:=zaL 65536 (dg 65536 x) (n - 1)
 have hd:=zbQ (b:=65536) (l:=(dg 65536 x).take (n - 1)) (fun d hd => zbE (by decide) x d (List.mem_of_mem_take hd))
 rw [List.length_take,← hl,Nat.min_eq_left (by omega)] at hd
 rw [show n - 1 + 1 = n by omega,List.take_of_length_le (by omega),hv] at ht
 rw [← hl] at hg
 have hz : (dg 65536 x).getD (n - 1) 0 = 0:=by
  simp only [List.mem_cons,List.not_mem_nil,or_false] at hm
  rcases hm with hm | hm | hm
  ·injection hm with _ hm; omega
  ·cases hm
  ·injection hm with _ hm; omega
 rw [hz,Nat.mul_zero] at ht
 omega
theorem ziH {w w' : World} {x : Nat} {A : oA9} {n c f : Nat} {t : TypeId} {s : ByteArray} (h : zai w x A n c) (k : Blk w f t #[.int .i64 0,.string s,.int .i64 0]) (ho : zei f w w') : zai w' x A n c:=by
 have hne:=zpA h k
 refine ⟨⟨h.1.1,fun hn => ?_⟩,h.2⟩
 obtain ⟨ad,e,hb,hc⟩:=h.1.2 hn
 refine ⟨ad,e,by rw [ho.1]; exact hb,fun j v hv => ?_⟩
 rw [ho.2 (ad.add j) (by rw [zaK]; exact hne hn ad e)]
 exact hc j v hv
theorem rq_offF {w w' : World} {r : Rat} {b : Bool} {A : oA9} {n c : Nat} {E : oA9} {u v f : Nat} {t : TypeId} {s : ByteArray} (h : zde w r b A n c E u v) (k : Blk w f t #[.int .i64 0,.string s,.int .i64 0]) (ho : zei f w w') : zde w' r b A n c E u v:=⟨⟨h.1.1,ziH h.1.2 k ho⟩,ziH h.2 k ho⟩
theorem zhl {W : World} {q f : Nat} {tq tf : TypeId} {a b c d e g : Value} (k : Blk W q tq #[a,b,c]) (l : Blk W f tf #[d,e,g]) (hn : q ≠ f) (x y z u v t : Value) :
  (W.cell? ⟨q,0,none⟩ = some a ∧ W.frozen? ⟨q,0,none⟩ = false ∧ (W.setCell ⟨q,0,none⟩ x).cell? ⟨q,1,none⟩ = some b ∧ (W.setCell ⟨q,0,none⟩ x).frozen? ⟨q,1,none⟩ = false ∧ ((W.setCell ⟨q,0,none⟩ x).setCell ⟨q,1,none⟩ y).cell? ⟨q,2,none⟩ = some c ∧ ((W.setCell ⟨q,0,none⟩ x).setCell ⟨q,1,none⟩ y).frozen? ⟨q,2,none⟩ = false) ∧
  ((((W.setCell ⟨q,0,none⟩ x).setCell ⟨q,1,none⟩ y).setCell ⟨q,2,none⟩ z).cell? ⟨f,0,none⟩ = some d ∧ (((W.setCell ⟨q,0,none⟩ x).setCell ⟨q,1,none⟩ y).setCell ⟨q,2,none⟩ z).frozen? ⟨f,0,none⟩ = false ∧ ((((W.setCell ⟨q,0,none⟩ x).setCell ⟨q,1,none⟩ y).setCell ⟨q,2,none⟩ z).setCell ⟨f,0,none⟩ u).cell? ⟨f,1,none⟩ = some e ∧ ((((W.setCell ⟨q,0,none⟩ x).setCell ⟨q,1,none⟩ y).setCell ⟨q,2,none⟩ z).setCell ⟨f,0,none⟩ u).frozen? ⟨f,1,none⟩ = false ∧ (((((W.setCell ⟨q,0,none⟩ x).setCell ⟨q,1,none⟩ y).setCell ⟨q,2,none⟩ z).setCell ⟨f,0,none⟩ u).setCell ⟨f,1,none⟩ v).cell? ⟨f,2,none⟩ = some g ∧ (((((W.setCell ⟨q,0,none⟩ x).setCell ⟨q,1,none⟩ y).setCell ⟨q,2,none⟩ z).setCell ⟨f,0,none⟩ u).setCell ⟨f,1,none⟩ v).frozen? ⟨f,2,none⟩ = false) ∧
  Blk ((((((W.setCell ⟨q,0,none⟩ x).setCell ⟨q,1,none⟩ y).setCell ⟨q,2,none⟩ z).setCell ⟨f,0,none⟩ u).setCell ⟨f,1,none⟩ v).setCell ⟨f,2,none⟩ t) q tq #[x,y,z] ∧ Blk ((((((W.setCell ⟨q,0,none⟩ x).setCell ⟨q,1,none⟩ y).setCell ⟨q,2,none⟩ z).setCell ⟨f,0,none⟩ u).setCell ⟨f,1,none⟩ v).setCell ⟨f,2,none⟩ t) f tf #[u,v,t]:=by
 have k3:=sn3 k x y z
 have l3 : Blk (((W.setCell ⟨q,0,none⟩ x).setCell ⟨q,1,none⟩ y).setCell ⟨q,2,none⟩ z) f tf #[d,e,g]:=Blk.far (p:=⟨q,2,none⟩) (Blk.far (p:=⟨q,1,none⟩) (Blk.far (p:=⟨q,0,none⟩) l (Ne.symm hn) x) (Ne.symm hn) y) (Ne.symm hn) z
 exact ⟨st3 k x y,st3 l3 u v,Blk.far (p:=⟨f,2,none⟩) (Blk.far (p:=⟨f,1,none⟩) (Blk.far (p:=⟨f,0,none⟩) k3 hn u) hn v) hn t,sn3 l3 u v t⟩
def zjK (w : World) (t : Er × Rat × Nat) (e : Ending) (w' : World) : Prop:=∃ (b : Bool) (A : oA9) (n c : Nat) (E : oA9) (k f : Nat),e = .returned (.tuple #[.agg #[.bool b,.slice A n c,.slice E k f],.int .i64 (t.2.2 : Nat),.agg #[.int .i64 t.1.n,.string t.1.s,.int .i64 t.1.k]]) ∧ zde w' t.2.1 b A n c E k f ∧ Below w.heap.size w w'
def zlM (w : World) (t : Er × Rat) (e : Ending) (w' : World) : Prop:=∃ (b : Bool) (A : oA9) (n c : Nat) (E : oA9) (k f : Nat),e = .returned (.tuple #[.agg #[.bool b,.slice A n c,.slice E k f],.agg #[.int .i64 t.1.n,.string t.1.s,.int .i64 t.1.k]]) ∧ zde w' t.2 b A n c E k f ∧ Below w.heap.size w w'
theorem zeq {w W : World} {r : Rat} {q f : Nat} {tq tf : TypeId} {p : Bool} {q1 q2 : oA9} {r1 s1 r2 s2 : Nat} {s : ByteArray} {b : Bool} {A : oA9} {n c : Nat} {E : oA9} {k v : Nat} (h : zde W r b A n c E k v) (kq : Blk W q tq #[.bool p,.slice q1 r1 s1,.slice q2 r2 s2]) (kf : Blk W f tf #[.int .i64 0,.string s,.int .i64 0]) (hn : q ≠ f) (hB : Below w.heap.size w W) (hq : w.heap.size ≤ q) (hf : w.heap.size ≤ f) (u y t : Value) :
  zde ((((((W.setCell ⟨q,0,none⟩ (.bool b)).setCell ⟨q,1,none⟩ (.slice A n c)).setCell ⟨q,2,none⟩ (.slice E k v)).setCell ⟨f,0,none⟩ u).setCell ⟨f,1,none⟩ y).setCell ⟨f,2,none⟩ t) r b A n c E k v ∧
  Below w.heap.size w ((((((W.setCell ⟨q,0,none⟩ (.bool b)).setCell ⟨q,1,none⟩ (.slice A n c)).setCell ⟨q,2,none⟩ (.slice E k v)).setCell ⟨f,0,none⟩ u).setCell ⟨f,1,none⟩ y).setCell ⟨f,2,none⟩ t):=by
 have l3 : Blk (((W.setCell ⟨q,0,none⟩ (.bool b)).setCell ⟨q,1,none⟩ (.slice A n c)).setCell ⟨q,2,none⟩ (.slice E k v)) f tf #[.int .i64 0,.string s,.int .i64 0]:=Blk.far (p:=⟨q,2,none⟩) (Blk.far (p:=⟨q,1,none⟩) (Blk.far (p:=⟨q,0,none⟩) kf (Ne.symm hn) _) (Ne.symm hn) _) (Ne.symm hn) _
 exact ⟨rq_offF (zfK h kq (NoU.s3 _ _ _ _ _ _ _) (zcy _ _ _ _ _)) l3 (zcy _ _ _ _ _),bl3 _ _ _ hf (bl3 _ _ _ hq hB)⟩
section
variable {P : Program} {ops : Array Oper} {Q : Exit → Act → World → Prop} {S : World → Prop} {fuel : Nat} {l : Array Bool} {a : Act} {w : World}
theorem rc2 (i j : Nat) {o p : Oper} (hk : ∀ K' : Act → World → Prop,Shut (∀ (a : Act) (w : World),S w → (S w → wpAnyH P .any ops (NoPanic Q) S fuel (l.setIfInBounds i true) a w) → K' a w) → Oper.wp P o a w K' (NoPanic Q)) (hj : ∀ K' : Act → World → Prop,Shut (∀ (a : Act) (w : World),S w → (S w → wpAnyH P .any ops (NoPanic Q) S fuel (l.setIfInBounds j true) a w) → K' a w) → Oper.wp P p a w K' (NoPanic Q)) (h1 : ops[i]? = some o:=by simp only [List.getElem?_toArray,List.getElem?_cons_succ,List.getElem?_cons_zero]; rfl) (h1' : ops[j]? = some p:=by simp only [List.getElem?_toArray,List.getElem?_cons_succ,List.getElem?_cons_zero]; rfl) (h2 : Region.ready .any ops l = [i,j]:=by kernel_rfl) (h3 : Region.wanted o (yielded ops a.tmps) = true:=by rfl) (h3' : Region.wanted p (yielded ops a.tmps) = true:=by rfl) : wpAnyH P .any ops (NoPanic Q) S (fuel + 1) l a w :=
 wpAnyH_ready h2 (by simp) (AllReadyH.cons h1 (fun K' hK => by rw [if_pos h3]; exact hk K' hK) (AllReadyH.cons h1' (fun K' hK => by rw [if_pos h3']; exact hj K' hK) AllReadyH.nil))
end
end Go.Proofs.YtfieheffipfahaaGreatDoor
