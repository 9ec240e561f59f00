/- Short words. -/
import Derived.Lib.Hide
import Derived.KernelRfl
import Derived.Below
import Derived.WalkKit
import Derived.OrdersHeld
import Derived.Deep.RegionHeld
import Derived.RegionTactic
namespace Go.Proofs.YtielpgdebeggbaaGreatDoor
open Go Go.RowKit
abbrev ze:=Option Addr
def zd (p:Prop):Prop:=p
theorem zd.o {p:Prop}(h:zd p):p:=h
theorem zd.out {p:Prop}(h:zd p):p:=h
theorem fh {p:Prop}(h:p):zd p:=h
theorem yo {P:Program}{md:Region.Mode}{ops:Array Oper}{Q:Exit->Act->World->Prop}{S:World->Prop}{fuel:Nat}{l:Array Bool}{a:Act}{w:World}(i:Nat){o:Oper}{v:Value}(h6:∀w,S w->Sem.run P (execOp a.eval o) w=Result.ok (Next.value v) w)(hn:wpAnyH P md ops Q S fuel (l.setIfInBounds i true) (a.put o.dst v) w)(h1:ops[i]?=some o:=by simp only [List.getElem?_toArray,List.getElem?_cons_succ,List.getElem?_cons_zero];rfl)(h2:Region.noSelect ops=true:=by kernel_rfl)(h3:Region.free md ops l i=true:=by kernel_rfl)(h4:(Region.ready md ops l).contains i=true:=by kernel_rfl)(hq:∀(c:List PanicEntry) (a:Act) (w:World),Q (Exit.panic c) (a.put o.dst v) w->Q (Exit.panic c) a w:=by exact(λ_ _ _ h=>h))(h5:Region.wanted o (yielded ops a.tmps)=true:=by rfl)(hS:S w:=by with_reducible assumption):wpAnyH P md ops Q S (fuel+1) l a w:=wpAnyH_take h1 h2 h3 h4 hq (Or.inl ⟨h5,h6⟩) hS hn
theorem td {P:Program}{md:Region.Mode}{ops:Array Oper}{Q:Exit->Act->World->Prop}{S:World->Prop}{fuel:Nat}{l:Array Bool}{a:Act}{w:World}{i:Nat}{o:Oper}(hk:∀K':Act->World->Prop,Shut (∀(a:Act) (w:World),S w->(S w->wpAnyH P md ops Q S fuel (l.setIfInBounds i true) a w)->K' a w)->if Region.wanted o (yielded ops a.tmps)=true then Oper.wp P o a w K' Q else K' (a.put o.dst undef) w)(h1:ops[i]?=some o:=by simp only [List.getElem?_toArray,List.getElem?_cons_succ,List.getElem?_cons_zero];rfl):AllReadyH P md ops Q S fuel l a w [i]:=AllReadyH.cons h1 hk AllReadyH.nil
theorem zb {p:Prop}(h:p):zd p:=fh h
theorem zk (W:World){P:∀w',Below W.heap.size W w'→Prop}(f:∀w' h,P w' h):zd (∀w' h,P w' h):=fh f
theorem zm {P:Prop}(h:P:=by with_reducible assumption):P:=h
theorem za {P:Prop}(h:P:=by omega):P:=h
theorem zf {P:Prop}(h:P:=by decide):P:=h
theorem z5 {P:Prop}(h:P:=by dsimp only;omega):P:=h
theorem yd {P:Prop}(h:P:=by kernel_rfl):P:=h
theorem mn {P:Prop}(h:P:=by rw [hsz];decide):P:=h
theorem zF {P:Prop}(h:P:=by simp):P:=h
abbrev qQ:=@List.getD_eq_getElem?_getD
abbrev qX:=@Nat.le_refl
abbrev qY:=@List.getElem?_eq_getElem
abbrev qZ:=@Below.refl
abbrev qJ:=@Nat.lt_of_lt_of_le
abbrev qK:=@Array.getElem?_setIfInBounds_ne
abbrev qU:=@List.setIfInBounds_toArray
abbrev qV:=@List.take_of_length_le
abbrev qG:=@List.getElem?_cons_succ
abbrev qD:=@Nat.le_of_lt
abbrev qH:=@Nat.le_trans
abbrev qL:=@Nat.mul_assoc
abbrev qP:=@List.set_cons_zero
abbrev qO:=@List.set_cons_succ
abbrev qR:=@List.getElem?_cons_zero
abbrev qS:=@Nat.mul_le_mul_right
abbrev qA:=@Nat.pow_le_pow_right
abbrev qB:=@List.length_append
abbrev qC:=@Nat.mod_eq_of_lt
abbrev qE:=@List.length_take
abbrev qM:=@Nat.zero_le
abbrev qN:=@List.getElem?_eq_none
abbrev qT:=@List.getElem?_toArray
abbrev qW:=@List.getElem?_map
abbrev QQ:=@Nat.mul_add
abbrev QX:=@List.mem_of_getElem?
abbrev QY:=@List.length_set
abbrev QZ:=@Array.getElem?_setIfInBounds_self_of_lt
abbrev QJ:=@List.getElem?_append_right
abbrev QK:=@Nat.mul_comm
abbrev QU:=@Array.getElem?_eq_getElem
abbrev QV:=@List.eq_nil_of_length_eq_zero
abbrev QG:=@List.take_succ_eq_append_getElem
abbrev QD:=@Nat.pow_succ
abbrev QH:=@List.length_map
abbrev QL:=@IntWalk.i64_in
abbrev QP:=@List.getElem?_append_left
abbrev QO:=@Array.toList_setIfInBounds
abbrev QR:=@Array.getD_eq_getD_getElem?
abbrev QS:=@Array.getElem?_toList
abbrev QA:=@Nat.div_lt_iff_lt_mul
abbrev QB:=@Nat.add_mul
abbrev QE:=@List.length_drop
abbrev QM:=@World.block_lt_of_cell?
abbrev QN:=@Nat.mul_le_mul_left
abbrev QI:=@Nat.lt_of_le_of_lt
abbrev QT:=@Int.natCast_mul
abbrev QW:=@Nat.eq_zero_or_pos
abbrev xQ:=@List.append_assoc
abbrev xX:=@IntKind.wrap_u64
abbrev xY:=@Rat.add_zero
abbrev xZ:=@List.getElem?_take
abbrev xJ:=@List.mem_or_eq_of_mem_set
abbrev xK:=@List.length_cons
abbrev xU:=@List.getElem_mem
abbrev xV:=@Nat.min_eq_left
abbrev xG:=@Nat.lt_or_ge
abbrev xD:=@Nat.mod_lt
abbrev xH:=@Nat.zero_add
abbrev xL:=@Rat.mul_zero
abbrev xP:=@List.mem_of_mem_drop
abbrev xO:=@Nat.mul_one
abbrev xR:=@Int.eq_ofNat_of_zero_le
abbrev xS:=@Int.natAbs_mul
abbrev xA:=@Nat.two_pow_pos
abbrev xB:=@List.getElem?_range
abbrev xC:=@Nat.add_assoc
abbrev xE:=@List.drop_of_length_le
abbrev xM:=@Nat.div_eq_of_lt
abbrev xN:=@Nat.div_le_self
abbrev xI:=@Nat.pos_of_ne_zero
abbrev xT:=@List.mem_cons_self
abbrev xW:=@Nat.pow_add
abbrev XQ:=@List.getElem?_set_self
abbrev XX:=@List.mem_of_mem_take
abbrev XY:=@List.getElem?_set_ne
abbrev XZ:=@Nat.mod_one
abbrev XJ:=@Rat.one_mul
abbrev XK:=@Nat.sub_self
abbrev XU:=@Nat.add_le_add_left
abbrev XV:=@Nat.lt_trichotomy
abbrev XG:=@List.size_toArray
abbrev XD:=@List.length_range
abbrev XH:=@Nat.add_zero
abbrev XL:=@Rat.zero_mul
abbrev XP:=@Nat.mod_add_div
abbrev XO:=@Array.length_toList
abbrev XR:=@World.ownsRow_nil
abbrev XS:=@Nat.mul_div_cancel_left
abbrev XB:=@Int.tmod_eq_emod_of_nonneg
abbrev XC:=@List.mem_cons_of_mem
abbrev XE:=@List.range_succ
abbrev XM:=@List.nil_append
abbrev XN:=@Nat.div_div_eq_div_mul
abbrev XI:=@Nat.add_mul_mod_self_left
abbrev XT:=@Nat.gcd_dvd_right
abbrev XW:=@Int.mul_ediv_add_emod
abbrev yQ:=@List.map_cons
abbrev yX:=@List.mem_append
abbrev yY:=@Nat.div_add_mod
abbrev yZ:=@Nat.pow_pos
abbrev yJ:=@Nat.one_mul
abbrev yK:=@Nat.add_sub_cancel_left
abbrev yU:=@Nat.gcd_dvd_left
abbrev yV:=@Int.mul_comm
abbrev yG:=@Nat.pow_zero
abbrev yD:=@Nat.lt_of_mul_lt_mul_right
abbrev yH:=@List.foldl_append
abbrev yL:=@Int.natCast_pow
abbrev yP:=@Rat.intCast_mul
abbrev yO:=@List.map_append
abbrev yR:=@World.cell?_setCell_other
abbrev yS:=@List.drop_eq_getElem_cons
abbrev yA:=@List.length_replicate
abbrev yB:=@List.set_append_right
abbrev yC:=@Int.mul_le_mul_of_nonneg_right
abbrev yE:=@List.getElem?_drop
abbrev yM:=@List.map_toArray
abbrev yN:=@Int.natAbs_natCast
abbrev yI:=@List.ext_getElem
abbrev yT:=@Nat.mul_zero
abbrev yW:=@Nat.gcd_comm
abbrev YQ:=@Rat.zero_add
abbrev YX:=@Array.mem_toList_iff
abbrev YY:=@Nat.gcd_zero_left
abbrev YZ:=@Rat.num_intCast
abbrev YJ:=@Rat.den_intCast
abbrev YK:=@Nat.Coprime.coprime_dvd_left
abbrev YU:=@Nat.mul_div_cancel'
abbrev YV:=@Nat.gcd_div_gcd_div_gcd_of_pos_right
abbrev YG:=@Array.toList_append
abbrev YD:=@Rat.intCast_natCast
abbrev YH:=@Rat.mul_comm
abbrev YL:=@List.take_set
abbrev YP:=@List.cons_append
abbrev YO:=@Nat.mul_lt_mul''
abbrev YR:=@World.size_alloc
abbrev YS:=@Int.emod_lt_of_pos
abbrev YA:=@List.take_append_drop
abbrev YB:=@List.length_singleton
abbrev YC:=@Int.ediv_nonneg
abbrev YE:=@Int.emod_nonneg
abbrev YM:=@List.length_nil
abbrev YN:=@Nat.add_comm
abbrev YI:=@And.left
abbrev YT:=@Array.replicate_succ
abbrev YW:=@Array.replicate_zero
abbrev jQ:=@World.grownBy_alloc
abbrev jX:=@List.append_toArray
abbrev jY:=@List.length_zipWith
abbrev jZ:=@Int.mul_nonneg
abbrev jJ:=@List.take_left
abbrev jK:=@Nat.pow_mul
