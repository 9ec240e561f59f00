/- Short words. -/
import Derived.Lib.Hide
import Derived.KernelRfl
import Derived.Below
import Derived.WalkKit
import Derived.OrdersHeld
import Derived.Deep.RegionHeld
import Derived.RegionTactic
namespace Go.Proofs.YtipmllfnpldbdaaGreatDoor
open Go Go.RowKit
abbrev zf:=Option Addr
def zg (p:Prop):Prop:=p
theorem zg.o {p:Prop}(h:zg p):p:=h
theorem zg.out {p:Prop}(h:zg p):p:=h
theorem lr {p:Prop}(h:p):zg p:=h
theorem zT {P:Program}{md:Region.Mode}{ops:Array Oper}{Q:Exit->Act->World->Prop}{S:World->Prop}{fuel:Nat}{l:Array Bool}{a:Act}{w:World}(i:Nat){o:Oper}{v:Value}(h6:∀w,S w->Sem.run P (execOp a.eval o) w=Result.ok (Next.value v) w)(hn:wpAnyH P md ops Q S fuel (l.setIfInBounds i true) (a.put o.dst v) w)(h1:ops[i]?=some o:=by simp only [List.getElem?_toArray,List.getElem?_cons_succ,List.getElem?_cons_zero];rfl)(h2:Region.noSelect ops=true:=by kernel_rfl)(h3:Region.free md ops l i=true:=by kernel_rfl)(h4:(Region.ready md ops l).contains i=true:=by kernel_rfl)(hq:∀(c:List PanicEntry) (a:Act) (w:World),Q (Exit.panic c) (a.put o.dst v) w->Q (Exit.panic c) a w:=by exact(λ_ _ _ h=>h))(h5:Region.wanted o (yielded ops a.tmps)=true:=by rfl)(hS:S w:=by with_reducible assumption):wpAnyH P md ops Q S (fuel+1) l a w:=wpAnyH_take h1 h2 h3 h4 hq (Or.inl ⟨h5,h6⟩) hS hn
theorem vk {P:Program}{md:Region.Mode}{ops:Array Oper}{Q:Exit->Act->World->Prop}{S:World->Prop}{fuel:Nat}{l:Array Bool}{a:Act}{w:World}{i:Nat}{o:Oper}(hk:∀K':Act->World->Prop,Shut (∀(a:Act) (w:World),S w->(S w->wpAnyH P md ops Q S fuel (l.setIfInBounds i true) a w)->K' a w)->if Region.wanted o (yielded ops a.tmps)=true then Oper.wp P o a w K' Q else K' (a.put o.dst undef) w)(h1:ops[i]?=some o:=by simp only [List.getElem?_toArray,List.getElem?_cons_succ,List.getElem?_cons_zero];rfl):AllReadyH P md ops Q S fuel l a w [i]:=AllReadyH.cons h1 hk AllReadyH.nil
theorem zd {p:Prop}(h:p):zg p:=lr h
theorem zn (W:World){P:∀w',Below W.heap.size W w'→Prop}(f:∀w' h,P w' h):zg (∀w' h,P w' h):=lr f
theorem zo {P:Prop}(h:P:=by with_reducible assumption):P:=h
theorem za {P:Prop}(h:P:=by omega):P:=h
theorem zh {P:Prop}(h:P:=by decide):P:=h
theorem zL {P:Prop}(h:P:=by dsimp only;omega):P:=h
theorem zm {P:Prop}(h:P:=by kernel_rfl):P:=h
theorem UD {P:Prop}(h:P:=by rw [hsz];decide):P:=h
theorem zD {P:Prop}(h:P:=by simp):P:=h
abbrev qQ:=@List.getD_eq_getElem?_getD
abbrev qX:=@Nat.le_refl
abbrev qY:=@Below.refl
abbrev qZ:=@List.getElem?_eq_getElem
abbrev qJ:=@Nat.lt_of_lt_of_le
abbrev qK:=@List.setIfInBounds_toArray
abbrev qU:=@Nat.mul_assoc
abbrev qV:=@List.take_of_length_le
abbrev qG:=@List.set_cons_zero
abbrev qD:=@List.getElem?_append_right
abbrev qH:=@List.set_cons_succ
abbrev qL:=@Nat.pow_le_pow_right
abbrev qP:=@Nat.mod_eq_of_lt
abbrev qO:=@List.getElem?_append_left
abbrev qR:=@List.getElem?_cons_succ
abbrev qS:=@Nat.mul_add
abbrev qA:=@List.length_append
abbrev qB:=@Array.getElem?_setIfInBounds_ne
abbrev qC:=@Nat.le_trans
abbrev qE:=@Nat.mul_comm
abbrev qM:=@List.eq_nil_of_length_eq_zero
abbrev qN:=@Nat.pow_succ
abbrev qT:=@World.block_lt_of_cell?
abbrev qW:=@List.getElem?_cons_zero
abbrev QQ:=@List.getElem?_toArray
abbrev QX:=@Array.getElem?_eq_getElem
abbrev QY:=@List.length_take
abbrev QZ:=@Array.getD_eq_getD_getElem?
abbrev QJ:=@List.take_succ_eq_append_getElem
abbrev QK:=@Nat.mul_le_mul_right
abbrev QU:=@Nat.div_lt_iff_lt_mul
abbrev QV:=@Int.natCast_mul
abbrev QG:=@Nat.mul_le_mul_left
abbrev QD:=@IntWalk.i64_in
abbrev QH:=@Nat.add_mul
abbrev QL:=@IntKind.wrap_u64
abbrev QP:=@Array.getElem?_toList
abbrev QO:=@Nat.min_eq_left
abbrev QR:=@Array.getElem?_setIfInBounds_self_of_lt
abbrev QS:=@Nat.eq_zero_or_pos
abbrev QA:=@Nat.lt_of_le_of_lt
abbrev QB:=@List.getElem?_map
abbrev QE:=@List.length_replicate
abbrev QM:=@List.drop_of_length_le
abbrev QN:=@List.mem_of_getElem?
abbrev QI:=@Nat.mod_lt
abbrev QT:=@Int.eq_ofNat_of_zero_le
abbrev QW:=@Nat.add_sub_cancel_left
abbrev xQ:=@Nat.zero_le
abbrev xX:=@List.append_assoc
abbrev xY:=@List.length_cons
abbrev xZ:=@Nat.two_pow_pos
abbrev xJ:=@Nat.div_eq_of_lt
abbrev xK:=@Nat.div_le_self
abbrev xU:=@Nat.pow_add
abbrev xV:=@Array.toList_setIfInBounds
abbrev xG:=@Nat.zero_add
abbrev xD:=@Nat.mod_one
abbrev xH:=@List.size_toArray
abbrev xL:=@Nat.pos_of_ne_zero
abbrev xP:=@List.getElem?_eq_none
abbrev xO:=@Nat.mul_one
abbrev xR:=@Nat.add_assoc
abbrev xS:=@List.drop_eq_getElem_cons
abbrev xA:=@Nat.mod_add_div
abbrev xB:=@Int.natAbs_mul
abbrev xC:=@Nat.lt_or_ge
abbrev xE:=@Nat.mul_div_cancel_left
abbrev xM:=@List.getElem_mem
abbrev xN:=@Nat.div_div_eq_div_mul
abbrev xI:=@Nat.add_zero
abbrev xW:=@Nat.sub_self
abbrev XQ:=@Nat.add_mul_mod_self_left
abbrev XX:=@List.mem_or_eq_of_mem_set
abbrev XY:=@Nat.gcd_dvd_right
abbrev XZ:=@Int.mul_ediv_add_emod
abbrev XJ:=@Nat.div_add_mod
abbrev XK:=@List.mem_of_mem_take
abbrev XU:=@Nat.one_mul
abbrev XV:=@Nat.gcd_dvd_left
abbrev XG:=@Int.mul_comm
abbrev XD:=@Nat.lt_of_mul_lt_mul_right
abbrev XH:=@World.ownsRow_nil
abbrev XL:=@Array.length_toList
abbrev XP:=@List.getElem?_range
abbrev XO:=@Int.natCast_pow
abbrev XR:=@List.nil_append
abbrev XS:=@List.length_singleton
abbrev XA:=@Int.mul_le_mul_of_nonneg_right
abbrev XB:=@Int.natAbs_natCast
abbrev XC:=@Nat.mul_zero
abbrev XE:=@Nat.gcd_comm
abbrev XM:=@Nat.pow_pos
abbrev XN:=@Nat.gcd_zero_left
abbrev XI:=@List.mem_append
abbrev XT:=@Nat.Coprime.coprime_dvd_left
abbrev XW:=@Nat.mul_div_cancel'
abbrev yQ:=@Nat.gcd_div_gcd_div_gcd_of_pos_right
abbrev yX:=@Nat.pow_zero
abbrev yY:=@Nat.le_of_lt
abbrev yZ:=@List.cons_append
abbrev yJ:=@Nat.mul_lt_mul''
abbrev yK:=@World.size_alloc
abbrev yU:=@Int.emod_lt_of_pos
abbrev yV:=@List.getElem?_take
abbrev yG:=@Int.tmod_eq_emod_of_nonneg
abbrev yD:=@List.mem_cons_self
abbrev yH:=@List.set_append_right
abbrev yL:=@World.cell?_setCell_other
abbrev yP:=@Int.ediv_nonneg
abbrev yO:=@Int.emod_nonneg
abbrev yR:=@Rat.num_intCast
abbrev yS:=@Rat.den_intCast
abbrev yA:=@Nat.add_comm
abbrev yB:=@Nat.lt_trichotomy
abbrev yC:=@And.left
abbrev yE:=@List.mem_cons_of_mem
abbrev yM:=@Array.replicate_succ
abbrev yN:=@Array.replicate_zero
abbrev yI:=@World.grownBy_alloc
abbrev yT:=@Array.toList_append
abbrev yW:=@List.append_toArray
abbrev YQ:=@Int.mul_nonneg
abbrev YX:=@List.length_drop
abbrev YY:=@List.getElem?_drop
abbrev YZ:=@List.length_nil
abbrev YJ:=@List.length_map
abbrev YK:=@List.map_cons
abbrev YU:=@List.take_append_drop
abbrev YV:=@List.mem_of_mem_drop
abbrev YG:=@Nat.pow_mul
abbrev YD:=@Array.mem_toList_iff
abbrev YH:=@List.ext_getElem
abbrev YL:=@List.length_set
abbrev YP:=@Nat.ne_of_lt
abbrev YO:=@List.take_left
abbrev YR:=@List.map_toArray
abbrev YS:=@List.take_set
abbrev YA:=@List.getElem?_set_ne
abbrev YB:=@Nat.add_le_add_left
abbrev YC:=@Rat.add_zero
abbrev YE:=@Rat.zero_add
abbrev YM:=@List.range_succ
