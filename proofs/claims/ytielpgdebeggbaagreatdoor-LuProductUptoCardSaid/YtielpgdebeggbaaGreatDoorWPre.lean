/- Short words. -/
import Derived.Lib.Hide
import Derived.KernelRfl
import Derived.Below
import Derived.WalkKit
import Derived.OrdersHeld
import Derived.Deep.RegionHeld
import Derived.RegionTactic
namespace Go.Proofs.YtielpgdebeggbaaGreatDoor
open Go Go.RowKit
abbrev ze:=Option Addr
def zd (p:Prop):Prop:=p
theorem zd.o {p:Prop}(h:zd p):p:=h
theorem zd.out {p:Prop}(h:zd p):p:=h
theorem iK {p:Prop}(h:p):zd p:=h
theorem yo {P:Program}{md:Region.Mode}{ops:Array Oper}{Q:Exit->Act->World->Prop}{S:World->Prop}{fuel:Nat}{l:Array Bool}{a:Act}{w:World}(i:Nat){o:Oper}{v:Value}(h6:∀w,S w->Sem.run P (execOp a.eval o) w=Result.ok (Next.value v) w)(hn:wpAnyH P md ops Q S fuel (l.setIfInBounds i true) (a.put o.dst v) w)(h1:ops[i]?=some o:=by simp only [List.getElem?_toArray,List.getElem?_cons_succ,List.getElem?_cons_zero];rfl)(h2:Region.noSelect ops=true:=by kernel_rfl)(h3:Region.free md ops l i=true:=by kernel_rfl)(h4:(Region.ready md ops l).contains i=true:=by kernel_rfl)(hq:∀(c:List PanicEntry) (a:Act) (w:World),Q (Exit.panic c) (a.put o.dst v) w->Q (Exit.panic c) a w:=by exact(λ_ _ _ h=>h))(h5:Region.wanted o (yielded ops a.tmps)=true:=by rfl)(hS:S w:=by with_reducible assumption):wpAnyH P md ops Q S (fuel+1) l a w:=wpAnyH_take h1 h2 h3 h4 hq (Or.inl ⟨h5,h6⟩) hS hn
theorem uR {P:Program}{md:Region.Mode}{ops:Array Oper}{Q:Exit->Act->World->Prop}{S:World->Prop}{fuel:Nat}{l:Array Bool}{a:Act}{w:World}{i:Nat}{o:Oper}(hk:∀K':Act->World->Prop,Shut (∀(a:Act) (w:World),S w->(S w->wpAnyH P md ops Q S fuel (l.setIfInBounds i true) a w)->K' a w)->if Region.wanted o (yielded ops a.tmps)=true then Oper.wp P o a w K' Q else K' (a.put o.dst undef) w)(h1:ops[i]?=some o:=by simp only [List.getElem?_toArray,List.getElem?_cons_succ,List.getElem?_cons_zero];rfl):AllReadyH P md ops Q S fuel l a w [i]:=AllReadyH.cons h1 hk AllReadyH.nil
theorem za {p:Prop}(h:p):zd p:=iK h
theorem zj (W:World){P:∀w',Below W.heap.size W w'→Prop}(f:∀w' h,P w' h):zd (∀w' h,P w' h):=iK f
theorem zm {P:Prop}(h:P:=by with_reducible assumption):P:=h
theorem zb {P:Prop}(h:P:=by omega):P:=h
theorem zf {P:Prop}(h:P:=by decide):P:=h
theorem z4 {P:Prop}(h:P:=by dsimp only;omega):P:=h
theorem ye {P:Prop}(h:P:=by kernel_rfl):P:=h
theorem nF {P:Prop}(h:P:=by rw [hsz];decide):P:=h
theorem zA {P:Prop}(h:P:=by simp):P:=h
abbrev qQ:=@List.getD_eq_getElem?_getD
abbrev qX:=@Nat.le_refl
abbrev qY:=@List.getElem?_eq_getElem
abbrev qZ:=@Below.refl
abbrev qJ:=@Nat.lt_of_lt_of_le
abbrev qK:=@Array.getElem?_setIfInBounds_ne
abbrev qU:=@List.setIfInBounds_toArray
abbrev qV:=@List.take_of_length_le
abbrev qG:=@Nat.le_of_lt
abbrev qD:=@Nat.mul_assoc
abbrev qH:=@Nat.le_trans
abbrev qL:=@List.set_cons_zero
abbrev qP:=@List.set_cons_succ
abbrev qO:=@Nat.mod_eq_of_lt
abbrev qR:=@Nat.pow_le_pow_right
abbrev qS:=@Nat.mul_le_mul_right
abbrev qA:=@List.length_take
abbrev qB:=@List.length_append
abbrev qC:=@List.getElem?_cons_succ
abbrev qE:=@Nat.mul_add
abbrev qM:=@Array.getElem?_setIfInBounds_self_of_lt
abbrev qN:=@List.getElem?_map
abbrev qT:=@List.getElem?_append_right
abbrev qW:=@Nat.zero_le
abbrev QQ:=@Nat.mul_comm
abbrev QX:=@List.length_set
abbrev QY:=@Array.getElem?_eq_getElem
abbrev QZ:=@List.take_succ_eq_append_getElem
abbrev QJ:=@List.mem_of_getElem?
abbrev QK:=@Nat.pow_succ
abbrev QU:=@List.eq_nil_of_length_eq_zero
abbrev QV:=@List.getElem?_cons_zero
abbrev QG:=@List.getElem?_append_left
abbrev QD:=@Array.toList_setIfInBounds
abbrev QH:=@List.length_map
abbrev QL:=@List.getElem?_eq_none
abbrev QP:=@IntWalk.i64_in
abbrev QO:=@List.getElem?_toArray
abbrev QR:=@Array.getD_eq_getD_getElem?
abbrev QS:=@Array.getElem?_toList
abbrev QA:=@Nat.div_lt_iff_lt_mul
abbrev QB:=@World.block_lt_of_cell?
abbrev QE:=@Nat.add_mul
abbrev QM:=@Nat.mul_le_mul_left
abbrev QN:=@Nat.lt_of_le_of_lt
abbrev QI:=@Int.natCast_mul
abbrev QT:=@Nat.ne_of_lt
abbrev QW:=@List.mem_or_eq_of_mem_set
abbrev xQ:=@Nat.eq_zero_or_pos
abbrev xX:=@List.append_assoc
abbrev xY:=@IntKind.wrap_u64
abbrev xZ:=@List.length_drop
abbrev xJ:=@List.length_cons
abbrev xK:=@Rat.add_zero
abbrev xU:=@Nat.min_eq_left
abbrev xV:=@Nat.mul_one
abbrev xG:=@Nat.mod_lt
abbrev xD:=@List.getElem?_take
abbrev xH:=@List.getElem_mem
abbrev xL:=@List.getElem?_range
abbrev xP:=@Int.eq_ofNat_of_zero_le
abbrev xO:=@Rat.mul_zero
abbrev xR:=@Int.natAbs_mul
abbrev xS:=@Nat.two_pow_pos
abbrev xA:=@Nat.add_assoc
abbrev xB:=@Nat.zero_add
abbrev xC:=@List.drop_of_length_le
abbrev xE:=@Nat.div_eq_of_lt
abbrev xM:=@Nat.div_le_self
abbrev xN:=@Nat.pos_of_ne_zero
abbrev xI:=@Nat.pow_add
abbrev xT:=@List.mem_of_mem_take
abbrev xW:=@List.mem_cons_self
abbrev XQ:=@Nat.lt_or_ge
abbrev XX:=@Nat.mod_one
abbrev XY:=@List.getElem?_set_self
abbrev XZ:=@List.getElem?_set_ne
abbrev XJ:=@List.length_range
abbrev XK:=@Nat.lt_trichotomy
abbrev XU:=@List.size_toArray
abbrev XV:=@List.mem_of_mem_drop
abbrev XG:=@Rat.one_mul
abbrev XD:=@Nat.add_zero
abbrev XH:=@Nat.sub_self
abbrev XL:=@Nat.mod_add_div
abbrev XP:=@Array.length_toList
abbrev XO:=@World.ownsRow_nil
abbrev XR:=@Rat.zero_mul
abbrev XS:=@Nat.mul_div_cancel_left
abbrev XA:=@Int.tmod_eq_emod_of_nonneg
abbrev XB:=@List.mem_cons_of_mem
abbrev XC:=@List.nil_append
abbrev XE:=@Nat.div_div_eq_div_mul
abbrev XM:=@Nat.add_mul_mod_self_left
abbrev XN:=@Nat.add_le_add_left
abbrev XI:=@Nat.gcd_dvd_right
abbrev XT:=@Int.mul_ediv_add_emod
abbrev XW:=@List.mem_append
abbrev yQ:=@Nat.div_add_mod
abbrev yX:=@Nat.pow_pos
abbrev yY:=@Nat.one_mul
abbrev yZ:=@Nat.add_sub_cancel_left
abbrev yJ:=@Nat.gcd_dvd_left
abbrev yK:=@List.map_cons
abbrev yU:=@Int.mul_comm
abbrev yV:=@Nat.pow_zero
abbrev yG:=@Nat.lt_of_mul_lt_mul_right
abbrev yD:=@Rat.zero_add
abbrev yH:=@Int.natCast_pow
abbrev yL:=@List.range_succ
abbrev yP:=@Rat.intCast_mul
abbrev yO:=@List.drop_eq_getElem_cons
abbrev yR:=@List.length_replicate
abbrev yS:=@List.set_append_right
abbrev yA:=@Int.mul_le_mul_of_nonneg_right
abbrev yB:=@Int.natAbs_natCast
abbrev yC:=@Nat.mul_zero
abbrev yE:=@Nat.gcd_comm
abbrev yM:=@Rat.mul_comm
abbrev yN:=@Array.mem_toList_iff
abbrev yI:=@List.foldl_append
abbrev yT:=@Nat.gcd_zero_left
abbrev yW:=@Rat.num_intCast
abbrev YQ:=@Rat.den_intCast
abbrev YX:=@Nat.Coprime.coprime_dvd_left
abbrev YY:=@List.map_append
abbrev YZ:=@Nat.mul_div_cancel'
abbrev YJ:=@Nat.gcd_div_gcd_div_gcd_of_pos_right
abbrev YK:=@Array.toList_append
abbrev YU:=@Rat.intCast_natCast
abbrev YV:=@List.take_set
abbrev YG:=@List.map_toArray
abbrev YD:=@List.cons_append
abbrev YH:=@Nat.mul_lt_mul''
abbrev YL:=@World.size_alloc
abbrev YP:=@List.ext_getElem
abbrev YO:=@Int.emod_lt_of_pos
abbrev YR:=@List.getElem?_drop
abbrev YS:=@List.take_append_drop
abbrev YA:=@List.length_singleton
abbrev YB:=@World.cell?_setCell_other
abbrev YC:=@Int.ediv_nonneg
abbrev YE:=@Int.emod_nonneg
abbrev YM:=@List.length_nil
abbrev YN:=@Nat.add_comm
abbrev YI:=@And.left
abbrev YT:=@Array.replicate_succ
abbrev YW:=@Array.replicate_zero
abbrev jQ:=@World.grownBy_alloc
abbrev jX:=@List.length_zipWith
abbrev jY:=@List.append_toArray
abbrev jZ:=@Int.mul_nonneg
abbrev jJ:=@List.take_left
abbrev jK:=@Nat.pow_mul
