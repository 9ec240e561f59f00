/- What this claim leans on. -/
import Derived.Test.YtedbgdlbgohiiaaGreatDoorBMMat
import Derived.ArgAppend
namespace Go.Proofs.YtedbgdlbgohiiaaGreatDoor
open Go Go.RowKit
set_option maxHeartbeats 16000000
set_option maxRecDepth 100000
set_option linter.unusedVariables false
set_option linter.unusedSimpArgs false
theorem zfZ (g : Nat) : ∀ (news : List Value) (k : Nat) (w : World),zcK g w (w.setCells g k news)
 | [],k,w => zcK.refl g w
 | v :: t,k,w => by
   have h1:=zfZ g t (k + 1) (w.setCell ⟨g,k,none⟩ v)
   have h2:=(zcK.refl g w).set_ k v
   exact ⟨h1.1.trans h2.1,fun p hp => (h1.2 p hp).trans (h2.2 p hp)⟩
theorem zfV {g : Nat} {t : TypeId} : ∀ (news : List Value) (k : Nat) (w : World) (cs : Array Value),Blk w g t cs → k + news.length ≤ cs.size → (∀ u ∈ cs.toList,zbr u) → (∀ u ∈ news,zbr u) →
  ∃ cs',Blk (w.setCells g k news) g t cs' ∧ cs'.size = cs.size ∧ (∀ u ∈ cs'.toList,zbr u) ∧ (∀ j,j < k → cs'[j]? = cs[j]?) ∧ (∀ j,j < news.length → cs'[k + j]? = news[j]?) ∧ (∀ j,k + news.length ≤ j → cs'[j]? = cs[j]?)
 | [],k,w,cs,hk,hl,hs,hn => ⟨cs,hk,rfl,hs,fun _ _ => rfl,fun j hj => by simp at hj,fun _ _ => rfl⟩
 | v :: t9,k,w,cs,hk,hl,hs,hn => by
   simp only [List.length_cons] at hl
   obtain ⟨cs',h1,h2,h3,h4,h5,h6⟩:=zfV t9 (k + 1) (w.setCell ⟨g,k,none⟩ v) (cs.setIfInBounds k v) (hk.set_ k v) (by simp; omega) (fun u hu => by
    rw [Array.toList_setIfInBounds] at hu
    rcases List.mem_or_eq_of_mem_set hu with hu | rfl
    ·exact hs u hu
    ·exact hn _ (List.mem_cons_self ..)) (fun u hu => hn u (List.mem_cons_of_mem _ hu))
   refine ⟨cs',h1,by rw [h2]; simp,h3,fun j hj => ?_,fun j hj => ?_,fun j hj => ?_⟩
   ·rw [h4 j (by omega),Array.getElem?_setIfInBounds_ne (by omega)]
   ·cases j with
    | zero => rw [Nat.add_zero,h4 k (by omega),Array.getElem?_setIfInBounds_self_of_lt (by omega)]; rfl
    | succ j =>
      simp only [List.length_cons] at hj
      have:=h5 j (by omega)
      rw [show k + 1 + j = k + (j + 1) by omega] at this
      rw [this]; rfl
   ·simp only [List.length_cons] at hj
    rw [h6 j (by omega),Array.getElem?_setIfInBounds_ne (by omega)]
theorem zeg {w0 : World} {g : Nat} (hg : w0.heap.size ≤ g) : ∀ (news : List Value) (k : Nat) (w : World),Below w0.heap.size w0 w → Below w0.heap.size w0 (w.setCells g k news)
 | [],k,w,h => h
 | v :: t,k,w,h => zeg hg t (k + 1) (w.setCell ⟨g,k,none⟩ v) (zae v hg h)
theorem zjx {P : Program} {w w' : World} {o : Oper} {a : Act} {K : Act → World → Prop} {Q : Exit → Act → World → Prop} (s x : Operand) (t : TypeId) {v u v' : Value}
  (ho : o.op = .call { callee:=.builtin .append,args:=#[s,x],argTypes:=#[t,t] }) (hs : a.eval s = v) (hx : a.eval x = u) (hr : (Builtin.append_ #[t,t] o.type #[v,u]).run P w = .ok v' w') (h : K (a.put o.dst v') w') : Oper.wp P o a w K Q:=by
 unfold Oper.wp execOp
 simp only [ho,resolve,invoke,builtin,Sem.run_bind,Sem.run_pure,Result.andThen_ok,List.map_toArray,List.map_cons,List.map_nil,hs,hx,hr]
 exact h
theorem zaE.vals {R : RP Rat} {w : World} {ad : Addr} {n : Nat} {Ls : List (List Rat)} (h : zaE R w (some ad) n Ls) : ∃ vs : List Value,vs.length = n ∧ (∀ u ∈ vs,zbr u) ∧ (∀ j u,vs[j]? = some u → w.cell? (ad.add j) = some u) ∧ ∀ (i : Nat) (L : List Rat),Ls[i]? = some L → ∃ (B : oA9) (d : Nat),vs[i]? = some (Value.slice B L.length d) ∧ R w B L.length d L:=by
 have hl:=h.len
 have each : ∀ i,i < n → ∃ u,w.cell? (ad.add i) = some u ∧ zbr u:=fun i hi => by
  obtain ⟨ad',B,d,e,_,h2,_⟩:=h.num i _ (zcB (d:=[]) (by omega))
  injection e with e
  subst e
  exact ⟨_,h2,_,_,_,rfl⟩
 refine ⟨(List.range n).map fun i => (w.cell? (ad.add i)).getD undef,by simp,fun u hu => ?_,fun j u hu => ?_,fun i L hi => ?_⟩
 ·obtain ⟨i,hi,rfl⟩:=List.mem_map.1 hu
  obtain ⟨u,h1,h2⟩:=each i (List.mem_range.1 hi)
  rw [h1]; exact h2
 ·have hj : j < n:=by
   have:=(List.getElem?_eq_some_iff.1 hu).1
   simpa using this
  obtain ⟨u',h1,h2⟩:=each j hj
  rw [List.getElem?_map,List.getElem?_range hj] at hu
  injection hu with hu
  dsimp only at hu
  rw [h1] at hu ⊢
  rw [← hu]; rfl
 ·have hlt:=(List.getElem?_eq_some_iff.1 hi).1
  obtain ⟨ad',B,d,e,_,h2,h3⟩:=h.num i L hi
  injection e with e
  subst e
  refine ⟨B,d,?_,h3⟩
  rw [List.getElem?_map,List.getElem?_range (by omega)]
  show some ((w.cell? (ad.add i)).getD undef) = _
  rw [h2]; rfl
structure zbs (w : World) (base g n cap : Nat) (Ls : List (List Rat)) : Prop where
 ge : base ≤ g
 len : Ls.length = n
 fits : n ≤ cap
 most : cap ≤ 9223372036854775807
 blk : ∃ cs : Array Value,Blk w g 51 cs ∧ (∀ u ∈ cs.toList,zbr u) ∧ cs.size = cap
 num : ∀ i L,Ls[i]? = some L → ∃ (B : oA9) (d : Nat),w.cell? ⟨g,i,none⟩ = some (.slice B L.length d) ∧ zaD w B L.length d L
theorem zbs.below {w w' : World} {base g n cap : Nat} {Ls : List (List Rat)} (h : zbs w base g n cap Ls) (hb : Below w.heap.size w w') : zbs w' base g n cap Ls:=by
 refine ⟨h.ge,h.len,h.fits,h.most,?_,fun i L hi => ?_⟩
 ·obtain ⟨cs,hk,h1,h2⟩:=h.blk
  exact ⟨cs,zac hb hk,h1,h2⟩
 ·obtain ⟨B,d,h1,h2⟩:=h.num i L hi
  exact ⟨B,d,zab hb h1,zaD.keep h2 hb⟩
theorem zbs.rows {w : World} {base g n cap : Nat} {Ls : List (List Rat)} (h : zbs w base g n cap Ls) : zaE (zaH zai) w (some ⟨g,0,none⟩) n Ls :=
 ⟨h.len,fun i L hi => by
  obtain ⟨cs,hk,_⟩:=h.blk
  obtain ⟨B,d,h1,h2⟩:=h.num i L hi
  exact ⟨_,B,d,rfl,hk.lt,by rw [zay]; exact h1,h2⟩⟩
theorem zaZ.room {w : World} {base : Nat} {v : Value} {Ls : List (List Rat)} {vs : List Value} {g n c : Nat} (h : zaZ (zaH zai) w base 51 v Ls vs) (hv : v = .slice (some ⟨g,0,none⟩) n c) : zbs w base g n c Ls:=by
 subst hv
 obtain ⟨cur,e,h1,h2⟩:=h.sl g rfl
 rcases h.own.2 with ⟨e2,_⟩ | ⟨g2,cap,cur2,e2,hbg,hg,hnc,hcm,hcs,htake⟩
 ·cases e2
 ·injection e2 with e2 e3 e4
  injection e2 with e2
  injection e2 with e2
  subst e2; subst e4
  rw [hg] at h1
  injection h1 with h1
  injection h1 with h1 h1'
  subst h1
  have hcell:=h.own.cells (g:=g) rfl
  refine ⟨hbg,e3.symm,by omega,by unfold maxLen at hcm; omega,⟨cur2,hg,h2,by omega⟩,fun i L hi => ?_⟩
  obtain ⟨B,d,hv,hw⟩:=h.num i L hi
  have:=hcell _ _ hv
  rw [zay] at this
  exact ⟨B,d,this,hw⟩
def zgM (w : World) (Ls : List (List Rat)) (e : Ending) (w' : World) : Prop:=∃ (v : Value) (vs : List Value),e = .returned v ∧ zaZ (zaH zai) w' w.heap.size 51 v Ls vs ∧ Below w.heap.size w w'
theorem zfd {A : oA9} {n c : Nat} {Ls : List (List Rat)} {w : World} (h : zaE (zaH zai) w A n Ls) (hn : n ≤ 1048576) :
  Calls Tryz.prog 85 #[.slice A n c] w (zgM w Ls):=by
 obtain ⟨i0,hi0,hz0,hz1,hz2⟩:=info_parts zdl
 have q : ∀ (w : World) (a : oA9) (n c n' c' : Nat),(binOp .eql 26 (.slice a n c) (.slice none n' c')).run Tryz.prog w = .ok (.bool a.isNone) w:=fun w a n c n' c' => Lib.run_eql_slice_nil w _ _ a n c n' c' Tryz.underlying26
 rcases A with _ | ad
 ·have hl:=h.len
  have hn0 : Ls = []:=by
   rcases Nat.eq_zero_or_pos n with h0 | h0
   ·exact List.eq_nil_of_length_eq_zero (by omega)
   ·obtain ⟨ad,B,d,e,_⟩:=h.num 0 _ (zcB (d:=[]) (by omega))
    cases e
  subst hn0
  clear h hl
  go_enter Tryz.func85,Tryz.ntmps85
  go_wp2
  go_ret
  exact ⟨_,[],rfl,zaZ.nil _ _ _,Below.refl _ _⟩
 ·obtain ⟨vs,h1,h2,h3,h4⟩:=h.vals
  have hl:=h.len
  obtain ⟨t1,t2,-⟩:=zaC w 51 #[]
  have H3 : Hid (∀ j u,vs[j]? = some u → (w.alloc (.cells #[] 51)).cell? (ad.add j) = some u):=fun j u hu => zab t1 (h3 j u hu)
  have H4 : Hid (∀ (i : Nat) (L : List Rat),Ls[i]? = some L → ∃ (B : oA9) (d : Nat),vs[i]? = some (Value.slice B L.length d) ∧ zaD (w.alloc (.cells #[] 51)) B L.length d L):=fun i L hi => by
   obtain ⟨B,d,h5,h6⟩:=h4 i L hi
   exact ⟨B,d,h5,zaD.keep h6 t1⟩
  have HL:=lh9 hl
  have HV:=lh9 h1
  have HSL:=lh9 h2
  have HONE : Hid (∀ u ∈ vs,u.oneCell' = true):=fun u hu => by obtain ⟨A,n,c,e⟩:=h2 u hu; rw [e]; rfl
  have HZS : Hid (∀ u ∈ (Value.slice none 0 0).cells.toList,zbr u):=by intro u hu; simp [Value.cells] at hu; exact ⟨_,_,_,hu⟩
  have HRS : Hid (zbu (w.alloc (.cells #[] 51)) (.slice (some ⟨w.heap.size,0,none⟩) 0 0)):=fun g hg => by
   simp [Value.ownBlock] at hg
   subst hg
   exact ⟨#[],_,t2,fun u hu => by simp at hu⟩
  have HB:=lh9 t1
  clear h h1 h2 h3 h4 hl t1 t2
  go_enter Tryz.func85,Tryz.ntmps85
  go_wp2_with (at_builtin; go_loud (refine zbZ _ rfl (.tmp 5) (.tmp 6) 26 rfl w.heap.size 51 i0 (.slice none 0 0) 1 24 Tryz.underlying26 hi0 hz0 hz1 hz2 rfl (by decide) (.slice (some ⟨w.heap.size,0,none⟩) 0 0) 0 [] rfl (World.ownsRow_made w #[] 0 (Nat.le_refl _) (Nat.zero_le _) rfl) ad n c vs rfl (by have:=HV.out; omega) H3.out HONE.out (by unfold maxLen; omega) (by omega) HB.out.size HRS.out HZS.out HSL.out ?_; intro v' w1 hown' hgrow hat hsl'))
  have G : Hid (zgM w Ls (.returned v') w1):=by
   refine ⟨v',vs,rfl,⟨by rw [HL.out]; simpa using hown',hsl',fun i L hi => ?_⟩,HB.out.grown hgrow HB.out.size (fun g hg => by simp [Value.ownBlock] at hg; omega)⟩
   obtain ⟨B,d,h5,h6⟩:=H4.out i L hi
   exact ⟨B,d,h5,(zaA zal).grown h6 hgrow HRS.out⟩
  clear hown' hgrow hat hsl'
  go_wp2
  go_ret
  exact G.out
theorem zmL {g k c : Nat} {cs : Array Value} {W : World} (h : Blk W g 51 cs) (hk : k < cs.size) : ∀ t : TypeId,(Builtin.clear_ #[26] t #[.slice (some ⟨g,k,none⟩) 1 c]).run Tryz.prog W = .ok (.tuple #[]) (W.setCells g k [.slice none 0 0]):=fun t => by
 obtain ⟨i0,hi0,hz0,hz1,hz2⟩:=info_parts zdl
 have hst:=run_storeCells_cells (P:=Tryz.prog) g k [.slice none 0 0] 0 W
  (fun j hj => by
    have hj0 : j = 0:=by simpa using hj
    subst hj0
    rw [Nat.add_zero,h.cell k,Array.getElem?_eq_getElem hk]; rfl) (fun j _ => h.frozen _) (fun v hv => by rw [List.mem_singleton.1 hv]; rfl)
 have hz : (Builtin.zeroCells #[Value.slice none 0 0] 1).toList = [Value.slice none 0 0]:=List.ext_getElem (by simp [Builtin.zeroCells]) (fun i h1 h2 => by simp [Builtin.zeroCells,Nat.mod_one])
 rw [Nat.add_zero] at hst
 simp [Builtin.clear_,run_underlying Tryz.underlying26,zeroValue,typeInfo,hi0,hz0,hz,hst,Value.cells]
theorem zlM {w w' : World} {base g n k cap i : Nat} {Ls : List (List Rat)} {vs : List Value} {cs' : Array Value} (h : zbs w base g n cap Ls) (hk1 : k + 1 = n) (hi : i < n)
  (hv : vs.length = n) (h4 : ∀ (i : Nat) (L : List Rat),Ls[i]? = some L → ∃ (B : oA9) (d : Nat),vs[i]? = some (Value.slice B L.length d) ∧ zaD w B L.length d L)
  (hk : Blk w' g 51 cs') (hs : ∀ u ∈ cs'.toList,zbr u) (hz : cs'.size = cap) (hlow : ∀ j,j < i → cs'[j]? = vs[j]?) (hup : ∀ j,i ≤ j → j < k → cs'[j]? = vs[j + 1]?) (hf : zcm g w w') : zbs w' base g k cap (Ls.eraseIdx i):=by
 have hl:=h.len
 have hft:=h.fits
 obtain ⟨cs,hk0,hs0,_⟩:=h.blk
 refine ⟨h.ge,by rw [List.length_eraseIdx,if_pos (by omega)]; omega,by omega,h.most,⟨cs',hk,hs,hz⟩,fun j L hj => ?_⟩
 have hlt:=(List.getElem?_eq_some_iff.1 hj).1
 rw [List.length_eraseIdx,if_pos (by omega)] at hlt
 rw [List.getElem?_eraseIdx] at hj
 split at hj
 ·rename_i h1
  obtain ⟨B,d,h5,h6⟩:=h4 j L hj
  exact ⟨B,d,by rw [hk.cell,hlow j h1]; exact h5,zfL zal h6 hk0 hs0 hf⟩
 ·rename_i h1
  obtain ⟨B,d,h5,h6⟩:=h4 (j + 1) L hj
  exact ⟨B,d,by rw [hk.cell,hup j (by omega) (by omega)]; exact h5,zfL zal h6 hk0 hs0 hf⟩
theorem zks {base g n k cap i j9 : Nat} {Ls : List (List Rat)} {w : World} (h : zbs w base g n cap Ls) (hij : i + 1 = j9) (hk1 : k + 1 = n) (hi : i < n) (hn : n ≤ 1048576) :
  Calls Tryz.prog 86 #[.slice (some ⟨g,0,none⟩) n cap,.int .i64 (i : Int),.int .i64 (j9 : Int)] w (fun e w' => e = .returned (.slice (some ⟨g,0,none⟩) k cap) ∧ zbs w' base g k cap (Ls.eraseIdx i) ∧ ∀ w0 : World,w0.heap.size ≤ g → Below w0.heap.size w0 w → Below w0.heap.size w0 w'):=by
 obtain ⟨vs,h1,h2,h3,h4⟩:=h.rows.vals
 obtain ⟨cs,hk0,hs0,hz0⟩:=h.blk
 have hft:=h.fits
 have hmo:=h.most
 obtain ⟨i9,hi9,_,hzz1,_⟩:=info_parts zdl
 have hsl : ∀ (s : List Value) j,(s.drop j).length = s.length - j:=fun s j => List.length_drop
 obtain ⟨ca,a1,a2,a3,a4,a5,a6⟩:=zfV (vs.drop (i + 1)) i w.drew cs hk0 (by rw [List.length_drop]; omega) hs0 (fun u hu => h2 u (List.mem_of_mem_drop hu))
 obtain ⟨cb,b1,b2,b3,b4,b5,b6⟩:=zfV [.slice none 0 0] k (w.drew.setCells g i (vs.drop (i + 1))) ca a1 (by simp; omega) a3 (fun u hu => by rw [List.mem_singleton.1 hu]; exact ⟨_,_,_,rfl⟩)
 have hvc : ∀ j,j < n → cs[j]? = vs[j]?:=fun j hj => by
  have e1 : vs[j]? = some vs[j]:=List.getElem?_eq_getElem (by omega)
  have e2:=h3 j _ e1
  rw [zay,hk0.cell] at e2
  rw [e2,e1]
 have hfar : zcK g w.drew ((w.drew.setCells g i (vs.drop (i + 1))).setCells g k [.slice none 0 0]):=by
  have f1:=zfZ g (vs.drop (i + 1)) i w.drew
  have f2:=zfZ g [.slice none 0 0] k (w.drew.setCells g i (vs.drop (i + 1)))
  exact ⟨f2.1.trans f1.1,fun p hp => (f2.2 p hp).trans (f1.2 p hp)⟩
 have HG : Hid (zbs ((w.drew.setCells g i (vs.drop (i + 1))).setCells g k [.slice none 0 0]) base g k cap (Ls.eraseIdx i)):=by
  refine zlM h hk1 hi h1 h4 b1 b3 (by omega) (fun j hj => ?_) (fun j hj hj2 => ?_) (zcm.of_far ⟨hfar.1,hfar.2⟩)
  ·rw [b4 j (by omega),a4 j hj,hvc j (by omega)]
  ·rw [b4 j hj2]
   have:=a5 (j - i) (by rw [List.length_drop]; omega)
   rw [show i + (j - i) = j by omega,List.getElem?_drop,show i + 1 + (j - i) = j + 1 by omega] at this
   exact this
 have HBL : Hid (∀ w0 : World,w0.heap.size ≤ g → Below w0.heap.size w0 w → Below w0.heap.size w0 ((w.drew.setCells g i (vs.drop (i + 1))).setCells g k [.slice none 0 0])):=fun w0 hg hb => by
  exact zeg hg _ _ _ (zeg hg _ _ _ hb.drew)
 have hcl:=zmL (c:=cap - k) a1 (by omega : k < ca.size)
 obtain ⟨X,hX1,hX2⟩ : ∃ X : Addr,(if cap = i + 1 then (some ⟨g,0,none⟩ : oA9) else some ⟨g,i + 1,none⟩) = some X ∧ ∀ j u,(vs.drop (i + 1))[j]? = some u → w.drew.cell? (X.add j) = some u:=by
  by_cases hc : cap = i + 1
  ·refine ⟨⟨g,0,none⟩,if_pos hc,fun j u hu => ?_⟩
   rw [List.drop_of_length_le (by omega)] at hu
   simp at hu
  ·refine ⟨⟨g,i + 1,none⟩,if_neg hc,fun j u hu => ?_⟩
   rw [List.getElem?_drop] at hu
   have:=h3 _ _ hu
   rw [zay] at this
   rw [show (⟨g,i + 1,none⟩ : Addr).add j = ⟨g,i + 1 + j,none⟩ from by unfold Addr.add; split <;> simp_all]
   exact this
 have hrun:=run_append_room_cells (P:=Tryz.prog) w.drew 26 26 51 i9 Tryz.underlying26 hi9 g 0 i cap X (n - (i + 1)) (cap - (i + 1)) (vs.drop (i + 1)) (by rw [hzz1,List.length_drop]; omega) hX2 (fun u hu => by obtain ⟨A,n,c,e⟩:=h2 u (List.mem_of_mem_drop hu); rw [e]; rfl) (by omega) (fun j hj => by
  rw [hzz1,List.length_drop] at *
  rw [show w.drew.cell? ⟨g,0 + i * 1 + j,none⟩ = w.cell? ⟨g,0 + i * 1 + j,none⟩ from rfl,hk0.cell,Array.getElem?_eq_getElem (by omega)]; rfl) (fun j hj => hk0.frozen _)
 rw [hzz1,Nat.mul_one,Nat.zero_add] at hrun
 have i1 : (0 : Int) ≤ (i : Int):=by omega
 have i2 : (i : Int) ≤ ((i + 1 : Nat) : Int):=by omega
 have i3 : ((i + 1 : Nat) : Int) ≤ (n : Int):=by omega
 have i4 : ¬ ((i : Int) = ((i + 1 : Nat) : Int)):=by omega
 have ek : i + (n - (i + 1)) = k:=by omega
 have i5 : ((i : Int) == ((i + 1 : Nat) : Int)) = false:=by rw [beq_eq_false_iff_ne]; exact i4
 rw [hij] at hX1 hrun HG HBL hcl i2 i3 i4 i5 ek
 rw [ek] at hrun
 have i0 : (0 : Int) ≤ (j9 : Int):=by omega
 have i6 : (i : Int) ≤ (cap : Int):=by omega
 have i7 : (n : Int) ≤ (cap : Int):=by omega
 clear h h1 h2 h3 h4 hk0 hs0 a1 a2 a3 a4 a5 a6 b1 b2 b3 b4 b5 b6 hvc hfar hi9 hzz1 hij ek hX2
 go_enter Tryz.func86,Tryz.ntmps86
 go_wp2_with fail
 refine rg csn (fun hHeld => ?_)
 refine tk 0 ?_
 refine tk 1 ?_
 refine tk 2 ?_
 refine tk 3 ?_
 refine tk 4 ?_
 refine tk 5 ?_
 refine rc 6 (fun KK hK9 => ?_)
 refine zjx (v:=.slice (some ⟨g,0,none⟩) i cap) (u:=.slice (some X) (n - j9) (cap - j9)) (v':=.slice (some ⟨g,0,none⟩) k cap) (w':=w.drew.setCells g i (vs.drop j9)) (.tmp 22) (.tmp 25) 26 rfl rfl rfl hrun ?_
 refine hK9.out _ _ csn (fun hHeld => ?_)
 clear hK9 KK hrun
 refine tk 7 ?_
 refine rdn ?_
 clear hHeld
 generalize w.drew.setCells g i (vs.drop j9) = W1 at *
 subst hk1
 have j1 : (0 : Int) ≤ (k : Int):=by omega
 have j2 : (k : Int) ≤ (k : Int) + 1:=by omega
 have j4 : (k : Int) + 1 ≤ (cap : Int):=by omega
 clear i0 i1 i2 i3 i4 i5 i6 i7 hsl
 go_wp2
 go_ret
 exact ⟨rfl,HG.out,HBL.out⟩
end Go.Proofs.YtedbgdlbgohiiaaGreatDoor
