/- What this claim leans on. -/
import Derived.Test.YtedbgdlbgohiiaaGreatDoorBVPair
namespace Go.Proofs.YtedbgdlbgohiiaaGreatDoor
open Go Go.RowKit
set_option maxHeartbeats 16000000
set_option linter.unusedVariables false
set_option linter.unusedSimpArgs false
def zbr (u : Value) : Prop:=∃ A n c,u = .slice A n c
def zbu (w : World) (v : Value) : Prop:=∀ g,v.ownBlock = some g → ∃ (cur : Array Value) (e : TypeId),w.heap[g]? = some (.cells cur e (0,0)) ∧ ∀ u ∈ cur.toList,zbr u
theorem zbu.nil (w : World) (c : Nat) : zbu w (.slice none 0 c):=fun g h => by simp [Value.ownBlock] at h
theorem zbu.block {w w' : World} {v : Value} (h : zbu w v) (hg : ∀ g,v.ownBlock = some g → w'.heap[g]? = w.heap[g]?) : zbu w' v:=fun g e => by
 obtain ⟨cur,t,h1,h2⟩:=h g e
 exact ⟨cur,t,(hg g e).trans h1,h2⟩
theorem zbu.below {w w' : World} {v : Value} (h : zbu w v) (hb : Below w.heap.size w w') : zbu w' v:=fun g e => by
 obtain ⟨cur,t,h1,h2⟩:=h g e
 exact ⟨cur,t,(hb.block g (Array.getElem?_eq_some_iff.1 h1).1).trans h1,h2⟩
theorem zhQ {z : Array Value} {k : Nat} {u : Value} (hz : 0 < z.size) (hu : u ∈ (Builtin.zeroCells z k).toList) : u ∈ z.toList:=by
 unfold Builtin.zeroCells at hu
 rw [Array.mem_toList_iff,Array.mem_map] at hu
 obtain ⟨i,_,rfl⟩:=hu
 have hlt : i % z.size < z.size:=Nat.mod_lt _ hz
 rw [getElem!_pos z (i % z.size) hlt,Array.mem_toList_iff]
 exact Array.getElem_mem hlt
section
variable {P : Program} (w : World)
theorem zeL (base : Nat) (t ty e : TypeId) (i : TypeInfo) (z : Value) (size bytes : Nat) (ht : P.underlying t = some (.slice e)) (hi : P.info? e = some i) (hz : i.zero = some z)
  (hsize : i.size = size) (hby : i.bytes = bytes) (hzs : z.cells.size = size) (hsz : 0 < size)
  (v : Value) (n : Nat) (xs : List Value) (hown : w.ownsRow base e size v n xs)
  (a : Addr) (m c : Nat) (news : List Value) (hl : news.length = m * size) (hnews : ∀ j u,news[j]? = some u → w.cell? (a.add j) = some u) (h1 : ∀ u ∈ news,u.oneCell' = true)
  (h63 : n + m ≤ maxLen) (hbytes : (n + m) * bytes ≤ 140737488355328) (hbase : base ≤ w.heap.size)
  (hv : zbu w v) (hzn : ∀ u ∈ z.cells.toList,zbr u) (hnn : ∀ u ∈ news,zbr u) :
  ∃ v' w',(Builtin.append_ #[t,t] ty #[v,.slice (some a) m c]).run P w = .ok v' w' ∧ w'.ownsRow base e size v' (n + m) (xs ++ news) ∧ w.grownBy w' v.ownBlock ∧
   (v'.ownBlock = v.ownBlock ∨ v'.ownBlock = some w.heap.size) ∧ zbu w' v':=by
 subst hsize
 subst hby
 have hsmall : n + m ≤ 9223372036854775807:=by simp only [maxLen] at h63; omega
 have hlen : (xs ++ news).length = (n + m) * i.size:=by rw [List.length_append,hown.1,hl,Nat.add_mul]
 have grown : ∀ (old : Nat),old < n + m → (∀ u ∈ xs,zbr u) → ∀ (row : Option Nat),
   (w.drew.alloc (.cells (xs.toArray ++ news.toArray ++ Builtin.zeroCells z.cells (grownCap w (n + m) old e - (n + m))) e)).ownsRow base e i.size
     (.slice (some ⟨w.heap.size,0,none⟩) (n + m) (grownCap w (n + m) old e)) (n + m) (xs ++ news) ∧
   w.grownBy (w.drew.alloc (.cells (xs.toArray ++ news.toArray ++ Builtin.zeroCells z.cells (grownCap w (n + m) old e - (n + m))) e)) row ∧
   zbu (w.drew.alloc (.cells (xs.toArray ++ news.toArray ++ Builtin.zeroCells z.cells (grownCap w (n + m) old e - (n + m))) e)) (.slice (some ⟨w.heap.size,0,none⟩) (n + m) (grownCap w (n + m) old e)):=by
  intro old ho hxs row
  have hge:=grownCap_ge w (n + m) old e
  have hcm : grownCap w (n + m) old e ≤ maxLen:=grownCap_le_maxLen w (n + m) old e h63
  refine ⟨⟨hlen,.inr ⟨w.heap.size,_,_,rfl,hbase,heap_alloc_new w.drew _,hge,hcm,?_,?_⟩⟩,⟨rfl,rfl,rfl,by simp,fun k hk _ => heap_alloc_old w.drew _ hk⟩,?_⟩
  ·simp only [Array.size_append,List.size_toArray,size_zeroCells,hzs,hown.1,hl,← Nat.add_mul]
   congr 1
   omega
  ·simp only [Array.toList_append,List.append_assoc]
   rw [← List.append_assoc,← hlen]
   exact List.take_left
  ·intro g hg
   simp [Value.ownBlock] at hg
   subst hg
   refine ⟨_,_,heap_alloc_new w.drew _,fun u hu => ?_⟩
   simp only [Array.toList_append,List.mem_append] at hu
   rcases hu with (hu | hu) | hu
   ·exact hxs u hu
   ·exact hnn u hu
   ·exact hzn u (zhQ (by omega) hu)
 rcases hown.2 with ⟨rfl,rfl⟩ | ⟨g,cap,cur,rfl,hbg,hg,hnc,hcm,hcs,htake⟩
 ·have hx : xs = []:=List.eq_nil_of_length_eq_zero (by simpa using hown.1)
  subst hx
  by_cases hm : m = 0
  ·subst hm
   have hn : news = []:=List.eq_nil_of_length_eq_zero (by simpa using hl)
   subst hn
   refine ⟨.slice none 0 0,w,?_,World.ownsRow_nil w base e i.size,⟨rfl,rfl,rfl,Nat.le_refl _,fun _ _ _ => rfl⟩,Or.inl rfl,zbu.nil _ _⟩
   simp [Builtin.append_,run_underlying ht,sizeOf,typeInfo,hi,Builtin.lenOf,Builtin.firstCells,loadCells,loadCellsFrom]
  ·have hr:=run_append_nil (P:=P) w t ty e i z ht hi hz a m c news hl hnews (by omega) (by omega) (by have hb:=hbytes; simp only [Nat.zero_add] at hb; omega)
   have hgr:=grown 0 (by omega) (fun u hu => by cases hu) (Value.ownBlock (.slice none 0 0))
   simp only [Nat.zero_add,List.nil_append,Array.empty_append] at hgr ⊢
   exact ⟨_,_,hr,hgr.1,hgr.2.1,Or.inr rfl,hgr.2.2⟩
 ·obtain ⟨cur2,e2,hg2,hcn⟩:=hv g rfl
  have hcur : cur2 = cur:=by
   rw [hg] at hg2
   injection hg2 with hg2
   injection hg2 with hg2
   exact hg2.symm
  subst hcur
  by_cases hroom : n + m ≤ cap
  ·have hfit : n * i.size + news.length ≤ cur2.size:=by rw [hl,hcs,← Nat.add_mul]; exact Nat.mul_le_mul_right _ hroom
   have hr:=run_append_room (P:=P) w t ty e i ht hi g n cap cur2 hg a m c news hl hnews h1 hroom hfit
   refine ⟨_,_,hr,⟨hlen,.inr ⟨g,cap,_,rfl,hbg,setRow_heap w g cur2 _ e _ hg,hroom,hcm,?_,?_⟩⟩,⟨rfl,rfl,rfl,by simp,fun k _ hk => setRow_other w g k _ (fun e => hk (by simp [Value.ownBlock,e]))⟩,Or.inl rfl,?_⟩
   ·simp only [List.size_toArray,List.length_append,List.length_take,List.length_drop,Array.length_toList]
    omega
   ·rw [htake,← hlen]
    exact List.take_left
   ·intro g' hg'
    simp [Value.ownBlock] at hg'
    subst hg'
    refine ⟨_,_,setRow_heap w g cur2 _ e _ hg,fun u hu => ?_⟩
    rw [List.mem_append,List.mem_append] at hu
    rcases hu with (hu | hu) | hu
    ·exact hcn u (List.mem_of_mem_take hu)
    ·exact hnn u hu
    ·exact hcn u (List.mem_of_mem_drop hu)
  ·have holds : ∀ j u,xs[j]? = some u → w.cell? ((⟨g,0,none⟩ : Addr).add j) = some u:=hown.cells (g:=g) rfl
   have hr:=run_append_grow (P:=P) w t ty e i z ht hi hz ⟨g,0,none⟩ n cap xs hown.1 holds a m c news hl hnews (by omega) (by omega) (growslice_fits (by omega) hbytes)
   have hxs : ∀ u ∈ xs,zbr u:=fun u hu => hcn u (List.mem_of_mem_take (by rw [htake]; exact hu))
   have hgr:=grown cap (by omega) hxs (Value.ownBlock (.slice (some ⟨g,0,none⟩) n cap))
   exact ⟨_,_,hr,hgr.1,hgr.2.1,Or.inr rfl,hgr.2.2⟩
theorem zbZ {ops : Array Oper} {rest : List Oper} {o : Oper} {a : Act} {Q : Exit → Act → World → Prop} (hgd : o.guard = none) (s x : Operand) (t : TypeId)
  (ho : o.op = .call { callee:=.builtin .append,args:=#[s,x],argTypes:=#[t,t] })
  (base : Nat) (e : TypeId) (i : TypeInfo) (z : Value) (size bytes : Nat) (ht : P.underlying t = some (.slice e)) (hi : P.info? e = some i) (hz : i.zero = some z)
  (hsize : i.size = size) (hby : i.bytes = bytes) (hzs : z.cells.size = size) (hsz : 0 < size)
  (v : Value) (n : Nat) (xs : List Value) (hs : a.eval s = v) (hown : w.ownsRow base e size v n xs)
  (ad : Addr) (m c : Nat) (news : List Value) (hx : a.eval x = .slice (some ad) m c) (hl : news.length = m * size) (hnews : ∀ j u,news[j]? = some u → w.cell? (ad.add j) = some u) (h1 : ∀ u ∈ news,u.oneCell' = true)
  (h63 : n + m ≤ maxLen) (hbytes : (n + m) * bytes ≤ 140737488355328) (hbase : base ≤ w.heap.size)
  (hv : zbu w v) (hzn : ∀ u ∈ z.cells.toList,zbr u) (hnn : ∀ u ∈ news,zbr u)
  (h : ∀ v' w',w'.ownsRow base e size v' (n + m) (xs ++ news) → w.grownBy w' v.ownBlock → (v'.ownBlock = v.ownBlock ∨ v'.ownBlock = some w.heap.size) → zbu w' v' → wpList P ops Q rest (a.put o.dst v') w') :
  wpList P ops Q (o :: rest) a w:=by
 refine wpList_plain hgd fun K hK => ?_
 obtain ⟨v',w',hr,h2,h3,h4,h5⟩:=zeL (P:=P) w base t o.type e i z size bytes ht hi hz hsize hby hzs hsz v n xs hown ad m c news hl hnews h1 h63 hbytes hbase hv hzn hnn
 unfold Oper.wp execOp
 simp only [ho,resolve,invoke,builtin,Sem.run_bind,Sem.run_pure,Result.andThen_ok,List.map_toArray,List.map_cons,List.map_nil,hs,hx,hr]
 exact hK _ _ (h v' w' h2 h3 h4 h5)
end
theorem zbu.blk {w : World} {v : Value} {g : Nat} (h : zbu w v) (hg : v.ownBlock = some g) : ∃ (t : TypeId) (cs : Array Value),Blk w g t cs ∧ ∀ u ∈ cs.toList,zbr u:=by
 obtain ⟨cur,e,h1,h2⟩:=h g hg
 exact ⟨e,cur,h1,h2⟩
theorem vec_offS {w w' : World} {A : oA9} {n c g : Nat} {xs : List Rat} {t : TypeId} {cs : Array Value} (h : zaD w A n c xs) (hk : Blk w g t cs) (hs : ∀ u ∈ cs.toList,zbr u) (ho : zcm g w w') : zaD w' A n c xs:=by
 refine ⟨h.len,h.fits,h.most,fun i x hi => ?_⟩
 obtain ⟨ad,b,B,m,d,F,u,v,e,h1,h2,h3,h4,h5⟩:=h.num i x hi
 have hne : ad.block ≠ g:=fun hg => by
  have hb : (ad.add (i * 3)).block = g:=by rw [zao]; exact hg
  generalize ad.add (i * 3) = q at hb h2
  obtain ⟨bk,off,pr⟩:=q
  simp only at hb
  subst hb
  unfold Blk at hk
  cases pr with
  | none =>
    rw [show w.cell? ⟨bk,off,none⟩ = cs[off]? from cell_of_row w bk off _ t (0,0) hk,← Array.getElem?_toList] at h2
    obtain ⟨A9,n9,c9,e9⟩:=hs _ (List.mem_of_getElem? h2)
    cases e9
  | some q => simp [World.cell?,hk] at h2
 have hnu : NoU cs:=fun q hq k z e9 => by
  obtain ⟨A9,n9,c9,e8⟩:=hs q hq
  rw [e8] at e9
  cases e9
 have hc : ∀ j,w'.cell? (ad.add j) = w.cell? (ad.add j):=fun j => ho.2 _ (by rw [zao]; exact h1) (by rw [zao]; exact hne)
 exact ⟨ad,b,B,m,d,F,u,v,e,Nat.lt_of_lt_of_le h1 ho.1,(hc _).trans h2,(hc _).trans h3,(hc _).trans h4,zal.offg h5 hk hnu ho⟩
theorem ziF {w w' : World} {v : Value} {A : oA9} {n c : Nat} {xs : List Rat} (h : zaD w A n c xs) (hg : w.grownBy w' v.ownBlock) (hn : zbu w v) : zaD w' A n c xs:=by
 cases hv : v.ownBlock with
 | none => rw [hv] at hg; exact h.keep (zcW hg)
 | some g =>
   rw [hv] at hg
   obtain ⟨t,cs,hk,hc⟩:=hn.blk hv
   exact vec_offS h hk hc (zcm.of_grown hg)
structure zce (w : World) (base : Nat) (v : Value) (Ls : List (List Rat)) (vs : List Value) : Prop where
 own : w.ownsRow base 51 1 v Ls.length vs
 sl : zbu w v
 num : ∀ (i : Nat) (L : List Rat),Ls[i]? = some L → ∃ (B : oA9) (d : Nat),vs[i]? = some (Value.slice B L.length d) ∧ zaD w B L.length d L
theorem zce.nil (w : World) (base : Nat) : zce w base (.slice none 0 0) [] []:=⟨World.ownsRow_nil _ _ _ _,zbu.nil _ _,fun i L hi => by simp at hi⟩
theorem zce.len {w : World} {base : Nat} {v : Value} {Ls : List (List Rat)} {vs : List Value} (h : zce w base v Ls vs) : vs.length = Ls.length:=by have:=h.own.1; omega
theorem zce.shape {w : World} {base n : Nat} {v : Value} {Ls : List (List Rat)} {vs : List Value} (h : zce w base v Ls vs) (hn : Ls.length = n) : ∃ A c,v = .slice A n c ∧ zfU w A n Ls:=by
 subst hn
 obtain ⟨A,c,e,h1,h2,h3⟩:=zap.of_grown_own h.own
 refine ⟨A,c,e,rfl,fun i L hi => ?_⟩
 obtain ⟨B,d,hv,hw⟩:=h.num i L hi
 have hlt:=(List.getElem?_eq_some_iff.1 hi).1
 obtain ⟨ad,ea,hb,hc⟩:=h3.2 (by omega)
 exact ⟨ad,B,d,ea,hb,hc i _ hv,hw⟩
theorem zce.below {w w' : World} {base : Nat} {v : Value} {Ls : List (List Rat)} {vs : List Value} (h : zce w base v Ls vs) (hb : Below w.heap.size w w') : zce w' base v Ls vs:=by
 refine ⟨⟨h.own.1,?_⟩,h.sl.below hb,fun i L hi => ?_⟩
 ·rcases h.own.2 with h1 | ⟨g,cap,cur,e1,e2,e3,e4⟩
  ·exact .inl h1
  ·exact .inr ⟨g,cap,cur,e1,e2,(hb.block g (Blk.lt (t:=51) (cs:=cur) e3)).trans e3,e4⟩
 ·obtain ⟨B,d,hv,hw⟩:=h.num i L hi
  exact ⟨B,d,hv,hw.keep hb⟩
theorem zce.grow {w w' : World} {base n : Nat} {v v' : Value} {Ls : List (List Rat)} {vs : List Value} {L : List Rat} {B : oA9} {d : Nat} (h : zce w base v Ls vs) (hx : zaD w B L.length d L)
  (ho : w'.ownsRow base 51 1 v' n (vs ++ [.slice B L.length d])) (hn : n = Ls.length + 1) (hg : w.grownBy w' v.ownBlock) (hs : zbu w' v') : zce w' base v' (Ls ++ [L]) (vs ++ [.slice B L.length d]):=by
 have hl:=h.len
 refine ⟨by rw [List.length_append,List.length_singleton,← hn]; exact ho,hs,fun i M hi => ?_⟩
 by_cases hlt : i < Ls.length
 ·rw [List.getElem?_append_left hlt] at hi
  obtain ⟨C,e,hv,hw⟩:=h.num i M hi
  exact ⟨C,e,by rw [List.getElem?_append_left (by omega)]; exact hv,ziF hw hg h.sl⟩
 ·rw [List.getElem?_append_right (by omega)] at hi
  have hi2 : i = Ls.length:=by
   have:=(List.getElem?_eq_some_iff.1 hi).1
   simp at this
   omega
  subst hi2
  obtain rfl : L = M:=by
   rw [Nat.sub_self] at hi
   injection hi
  exact ⟨B,d,by rw [List.getElem?_append_right (by omega),hl,Nat.sub_self]; rfl,ziF hx hg h.sl⟩
theorem zdl : (Tryz.prog.info? 51).map (fun i => (i.zero,i.size,i.bytes)) = some (some (.slice none 0 0),1,24):=by kernel_rfl
theorem zfU.get {w : World} {A : oA9} {n : Nat} {Ls : List (List Rat)} (h : zfU w A n Ls) {i m : Nat} (hi : i < n) (hm : (Ls.getD i []).length = m) : ∃ (ad : Addr) (B : oA9) (d : Nat),A = some ad ∧ w.cell? (ad.add i) = some (.slice B m d) ∧ zaD w B m d (Ls.getD i []):=by
 have hl:=h.len
 obtain ⟨ad,B,d,e,_,h1,h2⟩:=h.num i _ (zcB (d:=[]) (by omega))
 rw [hm] at h1 h2
 exact ⟨ad,B,d,e,h1,h2⟩
abbrev zgz:=Nat → oA9 × Nat × Nat × List (Int × Int)
end Go.Proofs.YtedbgdlbgohiiaaGreatDoor
