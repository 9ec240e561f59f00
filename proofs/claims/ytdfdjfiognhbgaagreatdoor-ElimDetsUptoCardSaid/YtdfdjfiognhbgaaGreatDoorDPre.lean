/- Short words. -/
import Derived.Lib.Hide
import Derived.KernelRfl
import Derived.Below
import Derived.WalkKit
import Derived.OrdersHeld
import Derived.Deep.RegionHeld
import Derived.RegionTactic
namespace Go.Proofs.YtdfdjfiognhbgaaGreatDoor
open Go Go.RowKit
abbrev ze:=Option Addr
def zd (p:Prop):Prop:=p
theorem zd.o {p:Prop}(h:zd p):p:=h
theorem zd.out {p:Prop}(h:zd p):p:=h
theorem gB {p:Prop}(h:p):zd p:=h
theorem yj {P:Program}{md:Region.Mode}{ops:Array Oper}{Q:Exit->Act->World->Prop}{S:World->Prop}{fuel:Nat}{l:Array Bool}{a:Act}{w:World}(i:Nat){o:Oper}{v:Value}(h6:∀w,S w->Sem.run P (execOp a.eval o) w=Result.ok (Next.value v) w)(hn:wpAnyH P md ops Q S fuel (l.setIfInBounds i true) (a.put o.dst v) w)(h1:ops[i]?=some o:=by simp only [List.getElem?_toArray,List.getElem?_cons_succ,List.getElem?_cons_zero];rfl)(h2:Region.noSelect ops=true:=by kernel_rfl)(h3:Region.free md ops l i=true:=by kernel_rfl)(h4:(Region.ready md ops l).contains i=true:=by kernel_rfl)(hq:∀(c:List PanicEntry) (a:Act) (w:World),Q (Exit.panic c) (a.put o.dst v) w->Q (Exit.panic c) a w:=by exact(λ_ _ _ h=>h))(h5:Region.wanted o (yielded ops a.tmps)=true:=by rfl)(hS:S w:=by with_reducible assumption):wpAnyH P md ops Q S (fuel+1) l a w:=wpAnyH_take h1 h2 h3 h4 hq (Or.inl ⟨h5,h6⟩) hS hn
theorem uH {P:Program}{md:Region.Mode}{ops:Array Oper}{Q:Exit->Act->World->Prop}{S:World->Prop}{fuel:Nat}{l:Array Bool}{a:Act}{w:World}{i:Nat}{o:Oper}(hk:∀K':Act->World->Prop,Shut (∀(a:Act) (w:World),S w->(S w->wpAnyH P md ops Q S fuel (l.setIfInBounds i true) a w)->K' a w)->if Region.wanted o (yielded ops a.tmps)=true then Oper.wp P o a w K' Q else K' (a.put o.dst undef) w)(h1:ops[i]?=some o:=by simp only [List.getElem?_toArray,List.getElem?_cons_succ,List.getElem?_cons_zero];rfl):AllReadyH P md ops Q S fuel l a w [i]:=AllReadyH.cons h1 hk AllReadyH.nil
theorem za {p:Prop}(h:p):zd p:=gB h
theorem zj (W:World){P:∀w',Below W.heap.size W w'→Prop}(f:∀w' h,P w' h):zd (∀w' h,P w' h):=gB f
theorem zk {P:Prop}(h:P:=by with_reducible assumption):P:=h
theorem zb {P:Prop}(h:P:=by omega):P:=h
theorem zg {P:Prop}(h:P:=by decide):P:=h
theorem zA {P:Prop}(h:P:=by dsimp only;omega):P:=h
theorem zP {P:Prop}(h:P:=by kernel_rfl):P:=h
theorem vK {P:Prop}(h:P:=by rw [hsz];decide):P:=h
theorem zE {P:Prop}(h:P:=by simp):P:=h
abbrev qQ:=@List.getD_eq_getElem?_getD
abbrev qX:=@List.getElem?_eq_getElem
abbrev qY:=@Nat.le_refl
abbrev qZ:=@Below.refl
abbrev qJ:=@Nat.lt_of_lt_of_le
abbrev qK:=@List.setIfInBounds_toArray
abbrev qU:=@List.take_of_length_le
abbrev qV:=@Nat.pow_le_pow_right
abbrev qG:=@Nat.mul_assoc
abbrev qD:=@List.set_cons_zero
abbrev qH:=@List.set_cons_succ
abbrev qL:=@Nat.le_trans
abbrev qP:=@Nat.pow_succ
abbrev qO:=@Nat.mod_eq_of_lt
abbrev qR:=@Array.getElem?_setIfInBounds_ne
abbrev qS:=@Nat.mul_comm
abbrev qA:=@List.getElem?_cons_succ
abbrev qB:=@List.length_take
abbrev qC:=@Nat.mul_add
abbrev qE:=@List.take_succ_eq_append_getElem
abbrev qM:=@List.getElem?_cons_zero
abbrev qN:=@Nat.zero_le
abbrev qT:=@List.getElem?_toArray
abbrev qW:=@Nat.mul_le_mul_right
abbrev QQ:=@List.getElem?_map
abbrev QX:=@Array.getD_eq_getD_getElem?
abbrev QY:=@List.eq_nil_of_length_eq_zero
abbrev QZ:=@Array.getElem?_eq_getElem
abbrev QJ:=@List.mem_of_getElem?
abbrev QK:=@List.getElem?_append_right
abbrev QU:=@Nat.lt_of_le_of_lt
abbrev QV:=@List.length_append
abbrev QG:=@List.getElem?_eq_none
abbrev QD:=@Nat.le_of_lt
abbrev QH:=@Nat.mod_lt
abbrev QL:=@Nat.div_eq_of_lt
abbrev QP:=@Nat.div_lt_iff_lt_mul
abbrev QO:=@IntWalk.i64_in
abbrev QR:=@List.getElem?_append_left
abbrev QS:=@Nat.div_le_self
abbrev QA:=@IntKind.wrap_u64
abbrev QB:=@Nat.mul_le_mul_left
abbrev QE:=@Nat.add_mul
abbrev QM:=@Array.getElem?_toList
abbrev QN:=@Int.natCast_mul
abbrev QI:=@Array.getElem?_setIfInBounds_self_of_lt
abbrev QT:=@Nat.eq_zero_or_pos
abbrev QW:=@Nat.two_pow_pos
abbrev xQ:=@World.block_lt_of_cell?
abbrev xX:=@Nat.pow_add
abbrev xY:=@Nat.lt_or_ge
abbrev xZ:=@Nat.min_eq_left
abbrev xJ:=@List.append_assoc
abbrev xK:=@World.ownsRow_nil
abbrev xU:=@Int.eq_ofNat_of_zero_le
abbrev xV:=@List.length_map
abbrev xG:=@List.drop_of_length_le
abbrev xD:=@Nat.div_div_eq_div_mul
abbrev xH:=@Array.toList_setIfInBounds
abbrev xL:=@Int.tmod_eq_emod_of_nonneg
abbrev xP:=@List.length_cons
abbrev xO:=@Int.natAbs_mul
abbrev xR:=@Nat.pos_of_ne_zero
abbrev xS:=@List.getElem_mem
abbrev xA:=@Nat.zero_add
abbrev xB:=@List.length_set
abbrev xC:=@Nat.mul_one
abbrev xE:=@Nat.add_assoc
abbrev xM:=@List.mem_cons_self
abbrev xN:=@Nat.add_zero
abbrev xI:=@Rat.mul_zero
abbrev xT:=@Nat.mod_one
abbrev xW:=@List.getElem?_range
abbrev XQ:=@List.mem_or_eq_of_mem_set
abbrev XX:=@List.length_drop
abbrev XY:=@List.mem_of_mem_take
abbrev XZ:=@Int.natAbs_natCast
abbrev XJ:=@Rat.add_zero
abbrev XK:=@Nat.div_add_mod
abbrev XU:=@Nat.mul_lt_mul''
abbrev XV:=@And.left
abbrev XG:=@List.size_toArray
abbrev XD:=@List.mem_of_mem_drop
abbrev XH:=@Nat.pow_pos
abbrev XL:=@List.getElem?_set_ne
abbrev XP:=@World.cell?_setCell_other
abbrev XO:=@List.getElem?_take
abbrev XR:=@List.getElem?_set_self
abbrev XS:=@Nat.mod_add_div
abbrev XA:=@Rat.one_mul
abbrev XB:=@Nat.pow_zero
abbrev XC:=@Nat.gcd_comm
abbrev XE:=@Nat.gcd_zero_left
abbrev XM:=@Nat.mul_div_cancel_left
abbrev XN:=@List.mem_cons_of_mem
abbrev XI:=@Nat.add_mul_mod_self_left
abbrev XT:=@Nat.lt_trichotomy
abbrev XW:=@Nat.gcd_dvd_right
abbrev yQ:=@Int.mul_ediv_add_emod
abbrev yX:=@List.map_cons
abbrev yY:=@List.mem_append
abbrev yZ:=@Nat.mul_zero
abbrev yJ:=@Nat.sub_self
abbrev yK:=@List.nil_append
abbrev yU:=@Rat.num_intCast
abbrev yV:=@Rat.zero_mul
abbrev yG:=@Nat.pow_mul
abbrev yD:=@Nat.one_mul
abbrev yH:=@Nat.add_sub_cancel_left
abbrev yL:=@Nat.gcd_dvd_left
abbrev yP:=@Int.mul_comm
abbrev yO:=@Nat.lt_of_mul_lt_mul_right
abbrev yR:=@List.foldl_append
abbrev yS:=@Int.natCast_pow
abbrev yA:=@List.range_succ
abbrev yB:=@Rat.intCast_mul
abbrev yC:=@List.drop_eq_getElem_cons
abbrev yE:=@List.length_replicate
abbrev yM:=@List.length_singleton
abbrev yN:=@Int.mul_le_mul_of_nonneg_right
abbrev yI:=@List.map_toArray
abbrev yT:=@Array.mem_toList_iff
abbrev yW:=@Rat.den_intCast
abbrev YQ:=@Nat.Coprime.coprime_dvd_left
abbrev YX:=@List.map_append
abbrev YY:=@Nat.add_le_add_left
abbrev YZ:=@Array.length_toList
abbrev YJ:=@Nat.mul_div_cancel'
abbrev YK:=@Nat.gcd_div_gcd_div_gcd_of_pos_right
abbrev YU:=@Array.toList_append
abbrev YV:=@Rat.intCast_natCast
abbrev YG:=@Nat.add_comm
abbrev YD:=@List.cons_append
abbrev YH:=@World.size_alloc
abbrev YL:=@Int.emod_lt_of_pos
abbrev YP:=@List.getElem?_drop
abbrev YO:=@List.take_append_drop
abbrev YR:=@List.set_append_right
abbrev YS:=@Int.ediv_nonneg
abbrev YA:=@Int.emod_nonneg
abbrev YB:=@List.length_nil
abbrev YC:=@Array.replicate_succ
abbrev YE:=@Array.replicate_zero
abbrev YM:=@Rat.zero_add
abbrev YN:=@Rat.mul_comm
abbrev YI:=@World.grownBy_alloc
abbrev YT:=@List.append_toArray
abbrev YW:=@Int.mul_nonneg
abbrev jQ:=@List.ext_getElem
abbrev jX:=@List.take_left
abbrev jY:=@List.not_mem_nil
abbrev jZ:=@List.take_set
abbrev jJ:=@List.length_range
