/- Short words. -/
import Derived.Lib.Hide
import Derived.KernelRfl
import Derived.Below
import Derived.WalkKit
import Derived.OrdersHeld
import Derived.Deep.RegionHeld
import Derived.RegionTactic
namespace Go.Proofs.YtipmllfnpldbdaaGreatDoor
open Go Go.RowKit
abbrev zf:=Option Addr
def zg (p:Prop):Prop:=p
theorem zg.o {p:Prop}(h:zg p):p:=h
theorem zg.out {p:Prop}(h:zg p):p:=h
theorem mZ {p:Prop}(h:p):zg p:=h
theorem zT {P:Program}{md:Region.Mode}{ops:Array Oper}{Q:Exit->Act->World->Prop}{S:World->Prop}{fuel:Nat}{l:Array Bool}{a:Act}{w:World}(i:Nat){o:Oper}{v:Value}(h6:∀w,S w->Sem.run P (execOp a.eval o) w=Result.ok (Next.value v) w)(hn:wpAnyH P md ops Q S fuel (l.setIfInBounds i true) (a.put o.dst v) w)(h1:ops[i]?=some o:=by simp only [List.getElem?_toArray,List.getElem?_cons_succ,List.getElem?_cons_zero];rfl)(h2:Region.noSelect ops=true:=by kernel_rfl)(h3:Region.free md ops l i=true:=by kernel_rfl)(h4:(Region.ready md ops l).contains i=true:=by kernel_rfl)(hq:∀(c:List PanicEntry) (a:Act) (w:World),Q (Exit.panic c) (a.put o.dst v) w->Q (Exit.panic c) a w:=by exact(λ_ _ _ h=>h))(h5:Region.wanted o (yielded ops a.tmps)=true:=by rfl)(hS:S w:=by with_reducible assumption):wpAnyH P md ops Q S (fuel+1) l a w:=wpAnyH_take h1 h2 h3 h4 hq (Or.inl ⟨h5,h6⟩) hS hn
theorem vm {P:Program}{md:Region.Mode}{ops:Array Oper}{Q:Exit->Act->World->Prop}{S:World->Prop}{fuel:Nat}{l:Array Bool}{a:Act}{w:World}{i:Nat}{o:Oper}(hk:∀K':Act->World->Prop,Shut (∀(a:Act) (w:World),S w->(S w->wpAnyH P md ops Q S fuel (l.setIfInBounds i true) a w)->K' a w)->if Region.wanted o (yielded ops a.tmps)=true then Oper.wp P o a w K' Q else K' (a.put o.dst undef) w)(h1:ops[i]?=some o:=by simp only [List.getElem?_toArray,List.getElem?_cons_succ,List.getElem?_cons_zero];rfl):AllReadyH P md ops Q S fuel l a w [i]:=AllReadyH.cons h1 hk AllReadyH.nil
theorem zd {p:Prop}(h:p):zg p:=mZ h
theorem zm (W:World){P:∀w',Below W.heap.size W w'→Prop}(f:∀w' h,P w' h):zg (∀w' h,P w' h):=mZ f
theorem zn {P:Prop}(h:P:=by with_reducible assumption):P:=h
theorem za {P:Prop}(h:P:=by omega):P:=h
theorem zh {P:Prop}(h:P:=by decide):P:=h
theorem zK {P:Prop}(h:P:=by dsimp only;omega):P:=h
theorem zV {P:Prop}(h:P:=by kernel_rfl):P:=h
theorem Vs {P:Prop}(h:P:=by rw [hsz];decide):P:=h
theorem zD {P:Prop}(h:P:=by simp):P:=h
abbrev qQ:=@List.getD_eq_getElem?_getD
abbrev qX:=@Nat.le_refl
abbrev qY:=@Below.refl
abbrev qZ:=@List.getElem?_eq_getElem
abbrev qJ:=@Nat.lt_of_lt_of_le
abbrev qK:=@List.setIfInBounds_toArray
abbrev qU:=@List.take_of_length_le
abbrev qV:=@Nat.mul_assoc
abbrev qG:=@List.set_cons_zero
abbrev qD:=@List.getElem?_append_right
abbrev qH:=@List.set_cons_succ
abbrev qL:=@Nat.pow_le_pow_right
abbrev qP:=@Nat.mod_eq_of_lt
abbrev qO:=@List.getElem?_append_left
abbrev qR:=@List.getElem?_cons_succ
abbrev qS:=@Nat.mul_add
abbrev qA:=@Nat.le_trans
abbrev qB:=@List.length_append
abbrev qC:=@Array.getElem?_setIfInBounds_ne
abbrev qE:=@Nat.mul_comm
abbrev qM:=@List.getElem?_cons_zero
abbrev qN:=@List.eq_nil_of_length_eq_zero
abbrev qT:=@Nat.pow_succ
abbrev qW:=@List.getElem?_toArray
abbrev QQ:=@Array.getElem?_eq_getElem
abbrev QX:=@List.length_take
abbrev QY:=@List.take_succ_eq_append_getElem
abbrev QZ:=@Array.getD_eq_getD_getElem?
abbrev QJ:=@Nat.mul_le_mul_right
abbrev QK:=@Nat.div_lt_iff_lt_mul
abbrev QU:=@Int.natCast_mul
abbrev QV:=@Nat.mul_le_mul_left
abbrev QG:=@IntWalk.i64_in
abbrev QD:=@Nat.add_mul
abbrev QH:=@IntKind.wrap_u64
abbrev QL:=@Array.getElem?_toList
abbrev QP:=@Nat.min_eq_left
abbrev QO:=@Array.getElem?_setIfInBounds_self_of_lt
abbrev QR:=@Nat.eq_zero_or_pos
abbrev QS:=@Nat.lt_of_le_of_lt
abbrev QA:=@List.mem_of_getElem?
abbrev QB:=@List.length_replicate
abbrev QE:=@Nat.zero_le
abbrev QM:=@List.getElem?_map
abbrev QN:=@Nat.mod_lt
abbrev QI:=@Int.eq_ofNat_of_zero_le
abbrev QT:=@World.block_lt_of_cell?
abbrev QW:=@Nat.add_sub_cancel_left
abbrev xQ:=@List.append_assoc
abbrev xX:=@List.length_cons
abbrev xY:=@Nat.two_pow_pos
abbrev xZ:=@List.drop_of_length_le
abbrev xJ:=@Nat.div_eq_of_lt
abbrev xK:=@Nat.div_le_self
abbrev xU:=@Nat.pow_add
abbrev xV:=@Array.toList_setIfInBounds
abbrev xG:=@Nat.zero_add
abbrev xD:=@Nat.mod_one
abbrev xH:=@List.size_toArray
abbrev xL:=@Nat.pos_of_ne_zero
abbrev xP:=@List.getElem?_eq_none
abbrev xO:=@Nat.mul_one
abbrev xR:=@Nat.add_assoc
abbrev xS:=@Nat.mod_add_div
abbrev xA:=@Int.natAbs_mul
abbrev xB:=@Nat.lt_or_ge
abbrev xC:=@Nat.mul_div_cancel_left
abbrev xE:=@List.getElem_mem
abbrev xM:=@Nat.div_div_eq_div_mul
abbrev xN:=@Nat.add_zero
abbrev xI:=@Nat.sub_self
abbrev xT:=@Nat.add_mul_mod_self_left
abbrev xW:=@List.drop_eq_getElem_cons
abbrev XQ:=@List.mem_or_eq_of_mem_set
abbrev XX:=@Nat.gcd_dvd_right
abbrev XY:=@Int.mul_ediv_add_emod
abbrev XZ:=@Nat.div_add_mod
abbrev XJ:=@List.mem_of_mem_take
abbrev XK:=@Nat.one_mul
abbrev XU:=@Nat.gcd_dvd_left
abbrev XV:=@Int.mul_comm
abbrev XG:=@World.ownsRow_nil
abbrev XD:=@Nat.lt_of_mul_lt_mul_right
abbrev XH:=@Array.length_toList
abbrev XL:=@Int.natCast_pow
abbrev XP:=@List.nil_append
abbrev XO:=@List.length_singleton
abbrev XR:=@Int.mul_le_mul_of_nonneg_right
abbrev XS:=@Int.natAbs_natCast
abbrev XA:=@Nat.mul_zero
abbrev XB:=@Nat.gcd_comm
abbrev XC:=@Nat.pow_pos
abbrev XE:=@Nat.gcd_zero_left
abbrev XM:=@List.mem_append
abbrev XN:=@Nat.Coprime.coprime_dvd_left
abbrev XI:=@Nat.mul_div_cancel'
abbrev XT:=@Nat.gcd_div_gcd_div_gcd_of_pos_right
abbrev XW:=@List.getElem?_range
abbrev yQ:=@Nat.pow_zero
abbrev yX:=@List.cons_append
abbrev yY:=@Nat.mul_lt_mul''
abbrev yZ:=@World.size_alloc
abbrev yJ:=@Int.emod_lt_of_pos
abbrev yK:=@List.getElem?_take
abbrev yU:=@Int.tmod_eq_emod_of_nonneg
abbrev yV:=@List.mem_cons_self
abbrev yG:=@List.set_append_right
abbrev yD:=@World.cell?_setCell_other
abbrev yH:=@Int.ediv_nonneg
abbrev yL:=@Int.emod_nonneg
abbrev yP:=@Rat.num_intCast
abbrev yO:=@Rat.den_intCast
abbrev yR:=@Nat.add_comm
abbrev yS:=@Nat.lt_trichotomy
abbrev yA:=@Array.replicate_succ
abbrev yB:=@Array.replicate_zero
abbrev yC:=@And.left
abbrev yE:=@List.mem_cons_of_mem
abbrev yM:=@World.grownBy_alloc
abbrev yN:=@List.append_toArray
abbrev yI:=@Array.toList_append
abbrev yT:=@Int.mul_nonneg
abbrev yW:=@List.length_drop
abbrev YQ:=@List.getElem?_drop
abbrev YX:=@Nat.le_of_lt
abbrev YY:=@List.length_nil
abbrev YZ:=@List.length_map
abbrev YJ:=@List.map_cons
abbrev YK:=@List.take_append_drop
abbrev YU:=@List.mem_of_mem_drop
abbrev YV:=@Nat.pow_mul
abbrev YG:=@Array.mem_toList_iff
abbrev YD:=@List.ext_getElem
abbrev YH:=@List.length_set
abbrev YL:=@List.take_left
abbrev YP:=@List.map_toArray
abbrev YO:=@List.take_set
abbrev YR:=@List.getElem?_set_ne
abbrev YS:=@Nat.add_le_add_left
abbrev YA:=@Rat.zero_add
abbrev YB:=@Rat.add_zero
abbrev YC:=@List.range_succ
