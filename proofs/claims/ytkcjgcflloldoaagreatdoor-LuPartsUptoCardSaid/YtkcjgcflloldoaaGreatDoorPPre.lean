/- Short words. -/
import Derived.Lib.Hide
import Derived.KernelRfl
import Derived.Below
import Derived.WalkKit
import Derived.OrdersHeld
import Derived.Deep.RegionHeld
import Derived.RegionTactic
namespace Go.Proofs.YtkcjgcflloldoaaGreatDoor
open Go Go.RowKit
abbrev ze:=Option Addr
def zd (p:Prop):Prop:=p
theorem zd.o {p:Prop}(h:zd p):p:=h
theorem zd.out {p:Prop}(h:zd p):p:=h
theorem fW {p:Prop}(h:p):zd p:=h
theorem yq {P:Program}{md:Region.Mode}{ops:Array Oper}{Q:Exit->Act->World->Prop}{S:World->Prop}{fuel:Nat}{l:Array Bool}{a:Act}{w:World}(i:Nat){o:Oper}{v:Value}(h6:∀w,S w->Sem.run P (execOp a.eval o) w=Result.ok (Next.value v) w)(hn:wpAnyH P md ops Q S fuel (l.setIfInBounds i true) (a.put o.dst v) w)(h1:ops[i]?=some o:=by simp only [List.getElem?_toArray,List.getElem?_cons_succ,List.getElem?_cons_zero];rfl)(h2:Region.noSelect ops=true:=by kernel_rfl)(h3:Region.free md ops l i=true:=by kernel_rfl)(h4:(Region.ready md ops l).contains i=true:=by kernel_rfl)(hq:∀(c:List PanicEntry) (a:Act) (w:World),Q (Exit.panic c) (a.put o.dst v) w->Q (Exit.panic c) a w:=by exact(λ_ _ _ h=>h))(h5:Region.wanted o (yielded ops a.tmps)=true:=by rfl)(hS:S w:=by with_reducible assumption):wpAnyH P md ops Q S (fuel+1) l a w:=wpAnyH_take h1 h2 h3 h4 hq (Or.inl ⟨h5,h6⟩) hS hn
theorem tv {P:Program}{md:Region.Mode}{ops:Array Oper}{Q:Exit->Act->World->Prop}{S:World->Prop}{fuel:Nat}{l:Array Bool}{a:Act}{w:World}{i:Nat}{o:Oper}(hk:∀K':Act->World->Prop,Shut (∀(a:Act) (w:World),S w->(S w->wpAnyH P md ops Q S fuel (l.setIfInBounds i true) a w)->K' a w)->if Region.wanted o (yielded ops a.tmps)=true then Oper.wp P o a w K' Q else K' (a.put o.dst undef) w)(h1:ops[i]?=some o:=by simp only [List.getElem?_toArray,List.getElem?_cons_succ,List.getElem?_cons_zero];rfl):AllReadyH P md ops Q S fuel l a w [i]:=AllReadyH.cons h1 hk AllReadyH.nil
theorem zb {p:Prop}(h:p):zd p:=fW h
theorem zj (W:World){P:∀w',Below W.heap.size W w'→Prop}(f:∀w' h,P w' h):zd (∀w' h,P w' h):=fW f
theorem zl {P:Prop}(h:P:=by with_reducible assumption):P:=h
theorem za {P:Prop}(h:P:=by omega):P:=h
theorem zf {P:Prop}(h:P:=by decide):P:=h
theorem zA {P:Prop}(h:P:=by dsimp only;omega):P:=h
theorem zU {P:Prop}(h:P:=by kernel_rfl):P:=h
theorem sa {P:Prop}(h:P:=by rw [hsz];decide):P:=h
theorem zG {P:Prop}(h:P:=by simp):P:=h
abbrev qQ:=@List.getD_eq_getElem?_getD
abbrev qX:=@Nat.le_refl
abbrev qY:=@List.getElem?_eq_getElem
abbrev qZ:=@Below.refl
abbrev qJ:=@Nat.lt_of_lt_of_le
abbrev qK:=@Array.getElem?_setIfInBounds_ne
abbrev qU:=@List.setIfInBounds_toArray
abbrev qV:=@List.take_of_length_le
abbrev qG:=@Nat.pow_le_pow_right
abbrev qD:=@Nat.le_trans
abbrev qH:=@Nat.mul_assoc
abbrev qL:=@List.length_take
abbrev qP:=@List.set_cons_zero
abbrev qO:=@Nat.pow_succ
abbrev qR:=@List.set_cons_succ
abbrev qS:=@Nat.mod_eq_of_lt
abbrev qA:=@List.getElem?_cons_succ
abbrev qB:=@Nat.mul_comm
abbrev qC:=@List.take_succ_eq_append_getElem
abbrev qE:=@Nat.mul_le_mul_right
abbrev qM:=@Nat.mul_add
abbrev qN:=@List.getElem?_cons_zero
abbrev qT:=@List.length_append
abbrev qW:=@List.getElem?_map
abbrev QQ:=@Nat.zero_le
abbrev QX:=@List.eq_nil_of_length_eq_zero
abbrev QY:=@List.mem_of_getElem?
abbrev QZ:=@Array.getElem?_setIfInBounds_self_of_lt
abbrev QJ:=@List.getElem?_append_right
abbrev QK:=@Nat.le_of_lt
abbrev QU:=@Array.getElem?_eq_getElem
abbrev QV:=@List.length_set
abbrev QG:=@Array.getD_eq_getD_getElem?
abbrev QD:=@List.getElem?_toArray
abbrev QH:=@List.getElem?_append_left
abbrev QL:=@Array.toList_setIfInBounds
abbrev QP:=@List.length_map
abbrev QO:=@Nat.lt_of_le_of_lt
abbrev QR:=@Array.getElem?_toList
abbrev QS:=@IntWalk.i64_in
abbrev QA:=@Nat.mod_lt
abbrev QB:=@Nat.div_eq_of_lt
abbrev QE:=@List.getElem?_eq_none
abbrev QM:=@Nat.div_lt_iff_lt_mul
abbrev QN:=@Nat.add_mul
abbrev QI:=@Nat.div_le_self
abbrev QT:=@IntKind.wrap_u64
abbrev QW:=@Nat.mul_le_mul_left
abbrev xQ:=@Nat.eq_zero_or_pos
abbrev xX:=@Int.natCast_mul
abbrev xY:=@World.block_lt_of_cell?
abbrev xZ:=@Nat.two_pow_pos
abbrev xJ:=@World.ownsRow_nil
abbrev xK:=@List.length_drop
abbrev xU:=@Nat.pow_add
abbrev xV:=@List.append_assoc
abbrev xG:=@Nat.min_eq_left
abbrev xD:=@List.getElem?_range
abbrev xH:=@Nat.add_assoc
abbrev xL:=@List.mem_or_eq_of_mem_set
abbrev xP:=@Int.eq_ofNat_of_zero_le
abbrev xO:=@List.length_cons
abbrev xR:=@Nat.zero_add
abbrev xS:=@Nat.mul_one
abbrev xA:=@List.drop_of_length_le
abbrev xB:=@Nat.div_div_eq_div_mul
abbrev xC:=@Int.tmod_eq_emod_of_nonneg
abbrev xE:=@Rat.add_zero
abbrev xM:=@List.getElem_mem
abbrev xN:=@Int.natAbs_mul
abbrev xI:=@List.getElem?_take
abbrev xT:=@Nat.pos_of_ne_zero
abbrev xW:=@Nat.lt_or_ge
abbrev XQ:=@Rat.mul_zero
abbrev XX:=@Nat.add_zero
abbrev XY:=@List.getElem?_set_self
abbrev XZ:=@List.mem_of_mem_take
abbrev XJ:=@List.getElem?_set_ne
abbrev XK:=@List.mem_cons_self
abbrev XU:=@Nat.mod_one
abbrev XV:=@Nat.lt_trichotomy
abbrev XG:=@Nat.sub_self
abbrev XD:=@Rat.one_mul
abbrev XH:=@Int.natAbs_natCast
abbrev XL:=@Nat.div_add_mod
abbrev XP:=@Nat.mul_lt_mul''
abbrev XO:=@And.left
abbrev XR:=@List.size_toArray
abbrev XS:=@List.length_range
abbrev XA:=@List.mem_of_mem_drop
abbrev XB:=@Nat.pow_pos
abbrev XC:=@Nat.mod_add_div
abbrev XE:=@Array.length_toList
abbrev XM:=@Nat.pow_zero
abbrev XN:=@Nat.gcd_comm
abbrev XI:=@Nat.gcd_zero_left
abbrev XT:=@Nat.mul_div_cancel_left
abbrev XW:=@List.mem_cons_of_mem
abbrev yQ:=@List.nil_append
abbrev yX:=@Rat.zero_mul
abbrev yY:=@World.cell?_setCell_other
abbrev yZ:=@Nat.add_mul_mod_self_left
abbrev yJ:=@Nat.add_le_add_left
abbrev yK:=@Nat.gcd_dvd_right
abbrev yU:=@Int.mul_ediv_add_emod
abbrev yV:=@List.map_cons
abbrev yG:=@List.mem_append
abbrev yD:=@Nat.mul_zero
abbrev yH:=@Rat.num_intCast
abbrev yL:=@Nat.pow_mul
abbrev yP:=@Nat.one_mul
abbrev yO:=@Nat.add_sub_cancel_left
abbrev yR:=@Nat.gcd_dvd_left
abbrev yS:=@Int.mul_comm
abbrev yA:=@Nat.lt_of_mul_lt_mul_right
abbrev yB:=@Int.natCast_pow
abbrev yC:=@Rat.intCast_mul
abbrev yE:=@List.drop_eq_getElem_cons
abbrev yM:=@List.length_replicate
abbrev yN:=@List.set_append_right
abbrev yI:=@List.length_singleton
abbrev yT:=@Int.mul_le_mul_of_nonneg_right
abbrev yW:=@List.getElem?_drop
abbrev YQ:=@List.map_toArray
abbrev YX:=@List.ext_getElem
abbrev YY:=@Rat.zero_add
abbrev YZ:=@Array.mem_toList_iff
abbrev YJ:=@List.foldl_append
abbrev YK:=@List.range_succ
abbrev YU:=@Rat.den_intCast
abbrev YV:=@Nat.Coprime.coprime_dvd_left
abbrev YG:=@List.map_append
abbrev YD:=@Array.toList_append
abbrev YH:=@Nat.mul_div_cancel'
abbrev YL:=@Nat.gcd_div_gcd_div_gcd_of_pos_right
abbrev YP:=@Rat.intCast_natCast
abbrev YO:=@Nat.add_comm
abbrev YR:=@List.take_set
abbrev YS:=@List.cons_append
abbrev YA:=@World.size_alloc
abbrev YB:=@Int.emod_lt_of_pos
abbrev YC:=@List.take_append_drop
abbrev YE:=@Int.ediv_nonneg
abbrev YM:=@Int.emod_nonneg
abbrev YN:=@List.length_nil
abbrev YI:=@Array.replicate_succ
abbrev YT:=@Array.replicate_zero
abbrev YW:=@Rat.mul_comm
abbrev jQ:=@World.grownBy_alloc
abbrev jX:=@List.length_zipWith
abbrev jY:=@List.append_toArray
abbrev jZ:=@Int.mul_nonneg
abbrev jJ:=@List.take_left
abbrev jK:=@List.not_mem_nil
