/- What this claim leans on. -/
import Derived.Test.YtghpdeciaaagnaaGreatDoorQBunE
import Derived.ChangeArms
import Derived.ChangeOld
import Derived.Lib.SmallJoins
import Derived.OpenShut
import Derived.ProofKit
namespace Go.Proofs.YtghpdeciaaagnaaGreatDoor
open Go Go.RowKit Go.Proofs.Tryz
set_option maxHeartbeats 16000000
structure AddB (x y k:Nat)(out:List Nat)(c:Nat):Prop where
 len:out.length=k
 dgs:Dgs 18446744073709551616 out
 carry:c<=1
 sum:x%18446744073709551616^k+y%18446744073709551616^k=dv 18446744073709551616 out+18446744073709551616^k*c
theorem AddB.start (x y:Nat):AddB x y 0 [] 0:=⟨rfl,by intro d hd;simp at hd,om9,by simp [dv,Nat.mod_one]⟩
theorem AddB.step {x y k c s:Nat}{a:List Nat}(h:AddB x y k a c)(hs:s=wd x k+wd y k+c):AddB x y (k+1) (a++[s%18446744073709551616]) (s / 18446744073709551616):=by
 have h1:=zcs x k;have h2:=zcs y k;have h3:=h.carry;refine⟨by simp [h.len],h.dgs.append (by intro d hd;simp at hd;subst hd;exact Nat.mod_lt _ de9),om9,?_⟩;have e:=h.sum;unfold wd at hs;rw [zba 18446744073709551616 x k,zba 18446744073709551616 y k,zbF,h.len,Nat.pow_succ,Nat.mul_assoc,Nat.add_assoc (dv 18446744073709551616 a),<-Nat.mul_add,Nat.mod_add_div,hs,Nat.mul_add,Nat.mul_add];omega
theorem AddB.done {x y k c:Nat}{a:List Nat}(h:AddB x y (k+1) a c)(hx:(dg 18446744073709551616 x).length<=k)(hy:(dg 18446744073709551616 y).length<=k):dv 18446744073709551616 a=x+y:=by
 have e:=h.sum;have h1:x<18446744073709551616^k:=Nat.lt_of_lt_of_le (zbP de9 x) (Nat.pow_le_pow_right de9 hx);have h2:y<18446744073709551616^k:=Nat.lt_of_lt_of_le (zbP de9 y) (Nat.pow_le_pow_right de9 hy);rw [Nat.pow_succ] at e;rw [Nat.mod_eq_of_lt om9,Nat.mod_eq_of_lt om9] at e;have h3:=h.carry;have h4:c=0\/c=1:=om9;rcases h4 with rfl|rfl
 ·omega
 ·omega
theorem zkn {a b c:Nat}(hc:c<=1):zdW (a:Int) (b:Int) (c:Int)=(((a+b+c)%18446744073709551616:Nat):Int):=by unfold zdW;omega
theorem zkm {a b c:Nat}(hc:c<=1):zdV (a:Int) (b:Int) (c:Int)=(((a+b+c) / 18446744073709551616:Nat):Int):=by unfold zdV;omega
structure SubB (x y k:Nat)(out:List Nat)(c:Nat):Prop where
 len:out.length=k
 dgs:Dgs 18446744073709551616 out
 lack:c<=1
 sum:dv 18446744073709551616 out+y%18446744073709551616^k=x%18446744073709551616^k+18446744073709551616^k*c
theorem SubB.start (x y:Nat):SubB x y 0 [] 0:=⟨rfl,by intro d hd;simp at hd,om9,by simp [dv,Nat.mod_one]⟩
theorem SubB.step {x y k c d c':Nat}{a:List Nat}(h:SubB x y k a c)(hd:d<18446744073709551616)(hc:c'<=1)(hs:d+wd y k+c=wd x k+18446744073709551616*c'):SubB x y (k+1) (a++[d]) c':=by
 refine⟨by simp [h.len],h.dgs.append (by intro e he;simp at he;subst he;exact hd),hc,?_⟩;have e:=h.sum;have e2:18446744073709551616^k*d+18446744073709551616^k*(y / 18446744073709551616^k%18446744073709551616)+18446744073709551616^k*c=18446744073709551616^k*(x / 18446744073709551616^k%18446744073709551616)+18446744073709551616^k*(18446744073709551616*c'):=by
  unfold wd at hs;rw [<-Nat.mul_add,<-Nat.mul_add,hs,Nat.mul_add]
 rw [zba 18446744073709551616 x k,zba 18446744073709551616 y k,zbF,h.len,Nat.pow_succ,Nat.mul_assoc (18446744073709551616^k) 18446744073709551616 c'];omega
theorem SubB.done {x y k c:Nat}{a:List Nat}(h:SubB x y k a c)(b:y<=x)(hx:(dg 18446744073709551616 x).length<=k):dv 18446744073709551616 a=x - y:=by
 have e:=h.sum;have h1:x<18446744073709551616^k:=Nat.lt_of_lt_of_le (zbP de9 x) (Nat.pow_le_pow_right de9 hx);have h3:=zcP h.dgs;rw [h.len] at h3;rw [Nat.mod_eq_of_lt h1,Nat.mod_eq_of_lt (Nat.lt_of_le_of_lt b h1)] at e;have h4:=h.lack;have:c=0\/c=1:=om9;rcases this with rfl|rfl<;>omega
theorem zlV {a b c:Nat}(ha:a<18446744073709551616)(hb:b<18446744073709551616)(hc:c<=1):
  ∃d c':Nat,zge (a:Int) (b:Int) (c:Int)=(d:Int)/\zgd (a:Int) (b:Int) (c:Int)=(c':Int)/\d<18446744073709551616/\c'<=1/\d+b+c=a+18446744073709551616*c':=by
 refine⟨((a:Int) - b - c).emod 18446744073709551616|>.toNat,if a<b+c then 1 else 0,?_,?_,?_,?_,?_⟩
 ·unfold zge;show((a:Int) - b - (c:Int)%2)%18446744073709551616=((((a:Int) - b - c)%18446744073709551616).toNat:Int);omega
 ·unfold zgd;split<;>split<;>omega
 ·show(((a:Int) - b - c)%18446744073709551616).toNat<_;omega
 ·split<;>omega
 ·show(((a:Int) - b - c)%18446744073709551616).toNat+b+c=_;split<;>omega
theorem zjT (cs:Array Value)(k:Nat)(u:Value)(h:k<cs.size):(cs.setIfInBounds k u).toList.take (k+1)=cs.toList.take k++[u]:=by
 rw [Array.toList_setIfInBounds,List.take_succ_eq_append_getElem (by simpa using h)];simp [List.take_set];exact List.set_eq_of_length_le (by simp;omega)
theorem zfa (K:IntKind)(l:List Nat)(d:Nat):zaF K (l++[d])=zaF K l++[.int K (d:Int)]:=by simp [zaF]
theorem zea {w:World}{g n:Nat}{t:TypeId}{cs:Array Value}{l:List Nat}(h:Blk w g t cs)(hn:cs.size=n)(hv:cs.toList.take n=zaF .u64 l)(hl:l.length=n):zaw w w.heap.size 1 (some ⟨g,0,none⟩) n (zaF .u64 l):=by
 refine⟨by rw [zaL];omega,λ_=>⟨_,rfl,h.lt,λj u hu=>?_⟩⟩;have e:(⟨g,0,none⟩:Addr).add j=⟨g,j,none⟩:=by unfold Addr.add;split<;>simp_all
 rw [e,h.cell j,<-Array.getElem?_toList];rw [List.take_of_length_le (by simp;omega)] at hv;rw [hv];exact hu
theorem zab {w w':World}{g:Nat}{t:TypeId}{cs:Array Value}(hb:Below w.heap.size w w')(h:Blk w g t cs):Blk w' g t cs:=h.below hb h.lt
theorem zab2 {w w':World}{g0:Nat}{t0:TypeId}{cs0:Array Value}{g1:Nat}{t1:TypeId}{cs1:Array Value}(hb:Below w.heap.size w w')(h0:Blk w g0 t0 cs0)(h1:Blk w g1 t1 cs1):Blk w' g0 t0 cs0/\Blk w' g1 t1 cs1:=⟨zab hb h0,zab hb h1⟩
theorem zax (w:World)(t:TypeId)(a:Array Value):Below w.heap.size w (w.alloc (.cells a t))/\Blk (w.alloc (.cells a t)) w.heap.size t a/\w.heap.size+1<=(w.alloc (.cells a t)).heap.size:=
 ⟨(Below.refl _ w).alloc (Nat.le_refl _) _,Blk.new w t a,si9⟩
theorem zbO (w:World)(t s:TypeId)(a b:Array Value):Below w.heap.size w ((w.alloc (.cells a t)).alloc (.cells b s))/\Blk ((w.alloc (.cells a t)).alloc (.cells b s)) w.heap.size t a/\Blk ((w.alloc (.cells a t)).alloc (.cells b s)) (w.heap.size+1) s b/\w.heap.size+2<=((w.alloc (.cells a t)).alloc (.cells b s)).heap.size:=by
 obtain⟨h1,h2,h3⟩:=zax w t a;have h4:=Blk.new (w.alloc (.cells a t)) s b;have e:(w.alloc (.cells a t)).heap.size=w.heap.size+1:=si9;rw [e] at h4;exact⟨h1.alloc h1.size _,h2.alloc _,h4,si9⟩
theorem zbT (w:World)(t s r:TypeId)(a b c:Array Value):Below w.heap.size w (((w.alloc (.cells a t)).alloc (.cells b s)).alloc (.cells c r))/\Blk (((w.alloc (.cells a t)).alloc (.cells b s)).alloc (.cells c r)) w.heap.size t a/\Blk (((w.alloc (.cells a t)).alloc (.cells b s)).alloc (.cells c r)) (w.heap.size+1) s b/\Blk (((w.alloc (.cells a t)).alloc (.cells b s)).alloc (.cells c r)) (w.heap.size+1+1) r c/\w.heap.size+3<=(((w.alloc (.cells a t)).alloc (.cells b s)).alloc (.cells c r)).heap.size:=by
 obtain⟨h1,h2,h3,h4⟩:=zbO w t s a b;have h5:=Blk.new ((w.alloc (.cells a t)).alloc (.cells b s)) r c;have e:((w.alloc (.cells a t)).alloc (.cells b s)).heap.size=w.heap.size+2:=si9;rw [e] at h5;exact⟨h1.alloc h1.size _,h2.alloc _,h3.alloc _,h5,si9⟩
theorem zam {w1:World}{p:Addr}{v:Value}(o:Obj)(h:w1.cell? p=some v):(w1.alloc o).cell? p=some v:=(World.cell?_alloc_lt w1 o p (World.block_lt_of_cell? w1 p h)).trans h
theorem zaj {w w1:World}(o:Obj)(h:Below w.heap.size w w1):Below w.heap.size w (w1.alloc o):=h.alloc h.size o
theorem zag {w1:World}{p q:Addr}{v:Value}(u:Value)(hp:p.block≠q.block)(h:w1.cell? p=some v):(w1.setCell q u).cell? p=some v:=(World.cell?_setCell_other w1 q p u (λe=>hp (by first|rw [e]|rw [<-e]))).trans h
theorem zae {w w1:World}{p:Addr}(u:Value)(hp:w.heap.size<=p.block)(h:Below w.heap.size w w1):Below w.heap.size w (w1.setCell p u):=h.setCell hp u
theorem zgy {w wr:World}{gs p x:Nat}{A1:oA9}{c1:Nat}(hB:Below w.heap.size w wr)(hp:w.heap.size<=p)(hg:p≠gs)(hr:zaw wr wr.heap.size 1 A1 (dg 18446744073709551616 x).length (zaF .u64 (dg 18446744073709551616 x)))(h1:(dg 18446744073709551616 x).length<=c1)(h2:c1<=9223372036854775807)
  (hA:A1=some ⟨gs,0,none⟩\/A1=none) (a:w.heap.size<=gs) (u:Value):Below w.heap.size w (wr.setCell ⟨p,0,none⟩ u)/\zad (wr.setCell ⟨p,0,none⟩ u) x A1 (dg 18446744073709551616 x).length c1/\zeM w A1:=
 ⟨hB.setCell hp u,zdd ⟨hr,h1,h2⟩ (λad e=>by
  rcases hA with h|h
  ·rw [h] at e;injection e with e;subst e;exact λe2=>hg e2.symm
  ·rw [h] at e;cases e) u,λad e=>by
  rcases hA with h|h
  ·rw [h] at e;injection e with e;subst e;exact a
  ·rw [h] at e;cases e⟩
theorem zfM {w:World}{g:Nat}{t:TypeId}{a:Value}(h:Blk w g t #[a])(u:Value):Blk (w.setCell ⟨g,0,none⟩ u) g t #[u]:=h.set_ 0 u
def zcl (w:World)(g:Nat)(v:Value):Prop:=∃t,Blk w g t #[v]
theorem Blk.one {w:World}{g:Nat}{t:TypeId}{v:Value}(h:Blk w g t #[v]):zcl w g v:=⟨t,h⟩
theorem zcl.cell {w:World}{g:Nat}{v:Value}(h:zcl w g v):w.cell? ⟨g,0,none⟩=some v:=by obtain⟨t,h⟩:=h;exact h.cell 0
theorem zcl.frozen {w:World}{g:Nat}{v:Value}(h:zcl w g v):w.frozen? ⟨g,0,none⟩=false:=by obtain⟨t,h⟩:=h;exact h.frozen 0
theorem zcl.new (w:World)(t:TypeId)(v:Value):zcl (w.alloc (.cells #[v] t)) w.heap.size v:=⟨t,Blk.new w t _⟩
theorem zcl.alloc {w:World}{g:Nat}{v:Value}(h:zcl w g v)(o:Obj):zcl (w.alloc o) g v:=by obtain⟨t,h⟩:=h;exact⟨t,h.alloc o⟩
theorem zcl.drew {w:World}{g:Nat}{v:Value}(h:zcl w g v):zcl w.drew g v:=h
theorem zcl.set_ {w:World}{g:Nat}{v:Value}(h:zcl w g v)(u:Value):zcl (w.setCell ⟨g,0,none⟩ u) g u:=by obtain⟨t,h⟩:=h;exact⟨t,zfM h u⟩
theorem zcl.far {w:World}{g:Nat}{v:Value}(h:zcl w g v){p:Addr}(hp:g≠p.block)(u:Value):zcl (w.setCell p u) g v:=by obtain⟨t,h⟩:=h;exact⟨t,h.far hp u⟩
theorem zcl.keep {w w':World}{g:Nat}{v:Value}(h:zcl w g v)(hb:Below w.heap.size w w'):zcl w' g v:=by obtain⟨t,h⟩:=h;exact⟨t,zab hb h⟩
theorem zcl.lt {w:World}{g:Nat}{v:Value}(h:zcl w g v):g<w.heap.size:=by obtain⟨t,h⟩:=h;exact h.lt
set_option linter.unusedVariables false
def zgk (w:World)(x:Nat)(b:Bool)(e:Ending)(w':World):Prop:=∃(A:oA9) (n c:Nat),e=.returned (.tuple #[.agg #[.slice A n c],.bool b])/\zad w' x A n c/\Below w.heap.size w w'/\zeM w A
theorem zgY (w:World):zad w 0 none 0 0:=⟨zaw.none_,Nat.le_refl _,om9⟩
theorem cmpI_ge {x y:Nat}(h:y<=x):0<=zcG x y:=by
 unfold zcG;rw [if_neg om9]
 split<;>omega
def zeu:Nat->Nat->List Int
 |0,_=>[]
 |n+1,x=>((x%2:Nat):Int)::zeu n (x / 2)
def bv:List Int->Int
 |[]=>0
 |b::l=>b+2*bv l
def Bit (b:Int):Prop:=0<=b/\b<=1
def zix (l:List Int):Prop:=∀b ∈ l,Bit b
theorem zhe:∀n x,(zeu n x).length=n
 |0,_=>rfl
 |n+1,x=>by simp [zeu,zhe n]
theorem zjb:∀n x,zix (zeu n x)
 |0,_=>by intro b hb;simp [zeu] at hb
 |n+1,x=>by
   intro b hb;simp only [zeu,List.mem_cons] at hb;rcases hb with rfl|hb
   ·unfold Bit;omega
   ·exact zjb n _ b hb
theorem zmn:∀n x,bv (zeu n x)=((x%2^n:Nat):Int)
 |0,x=>by simp [zeu,bv,Nat.mod_one]
 |n+1,x=>by
   rw [zeu,bv,zmn n (x / 2)];have h:x%2^(n+1)=x%2+2*(x / 2%2^n):=by
    rw [Nat.pow_succ,Nat.mul_comm (2^n) 2,Nat.mod_mul]
   omega
theorem zgl:∀(l m:List Int),bv (l++m)=bv l+2^l.length*bv m
 |[],m=>by simp [bv]
 |b::l,m=>by
   rw [List.cons_append,bv,bv,zgl l m,List.length_cons,Int.pow_succ,Int.mul_add,Int.mul_comm (2^l.length) 2,Int.mul_assoc];omega
theorem bv_bd:∀{l:List Int},zix l->0<=bv l/\bv l<2^l.length
 |[],_=>by simp [bv]
 |b::l,h=>by
   have h1:=h b si9;have h2:=bv_bd (l:=l) (λc hc=>h c (by simp [hc]));unfold Bit at h1;rw [bv,List.length_cons,Int.pow_succ];omega
theorem zlo:∀{l:List Int},zix l->l=zeu l.length (bv l).toNat
 |[],_=>rfl
 |b::l,h=>by
   have h1:=h b si9;have h0:zix l:=λc hc=>h c (by simp [hc]);have h2:=bv_bd h0;have e:=zlo h0;unfold Bit at h1;rw [List.length_cons,zeu,bv];have e1:(b+2*bv l).toNat%2=b.toNat:=om9;have e2:(b+2*bv l).toNat / 2=(bv l).toNat:=om9;rw [e1,e2,<-e];congr 1;omega
theorem zqe (n x:Nat):zeu n (x%2^n)=zeu n x:=by
 have h:=zlo (zjb n x);rw [zhe,zmn,Int.toNat_natCast] at h;exact h.symm
theorem zij {l m:List Int}(hl:zix l)(hm:zix m):zix (l++m):=by
 intro b hb;rcases List.mem_append.1 hb with h|h
 ·exact hl b h
 ·exact hm b h
theorem zhf (l:List Int)(k:Nat):bv (l.take (k+1))=bv (l.take k)+2^k*l.getD k 0:=by
 by_cases h:k<l.length
 ·rw [List.take_succ_eq_append_getElem h,zgl,List.length_take,Nat.min_eq_left om9];simp [bv,List.getD,List.getElem?_eq_getElem h]
 ·rw [List.take_of_length_le om9,List.take_of_length_le om9,List.getD_eq_getElem?_getD,List.getElem?_eq_none om9];simp
theorem zmA {l:List Int}(h:zix l)(k:Nat):Bit (l.getD k 0):=by
 by_cases hk:k<l.length
 ·exact h _ (by rw [List.getD_eq_getElem?_getD,List.getElem?_eq_getElem hk];exact List.getElem_mem hk)
 ·rw [List.getD_eq_getElem?_getD,List.getElem?_eq_none om9];unfold Bit;simp
structure ziP (a b:List Int)(k:Nat)(out:List Int)(c:Int):Prop where
 len:out.length=k
 bits:zix out
 carry:Bit c
 sum:bv (a.take k)+bv (b.take k)=bv out+2^k*c
theorem ziP.start (a b:List Int):ziP a b 0 [] 0:=⟨rfl,by intro x hx;simp at hx,by unfold Bit;omega,by simp [bv]⟩
theorem ziP.step {a b d:List Int}{k:Nat}{c s:Int}(h:ziP a b k d c)(ha:zix a)(hb:zix b)(hs:s=c+a.getD k 0+b.getD k 0):ziP a b (k+1) (d++[s%2]) (s / 2):=by
 have h1:=zmA ha k;have h2:=zmA hb k;have h3:=h.carry;unfold Bit at h1 h2 h3;refine⟨by simp [h.len],zij h.bits (by intro x hx;simp at hx;subst hx;unfold Bit;omega),by unfold Bit;omega,?_⟩;have e:=h.sum;rw [zhf,zhf,zgl,h.len];simp only [bv,Int.mul_zero,Int.add_zero];have e2:(2:Int)^(k+1)*(s / 2)=2^k*(2*(s / 2)):=by rw [Int.pow_succ,Int.mul_assoc]
 have e3:(2:Int)^k*(s%2)+2^k*(2*(s / 2))=2^k*s:=by rw [<-Int.mul_add];congr 1;omega
 have e4:(2:Int)^k*s=2^k*c+2^k*a.getD k 0+2^k*b.getD k 0:=by rw [hs,Int.mul_add,Int.mul_add]
 omega
theorem ziP.done {a b d:List Int}{k:Nat}{c:Int}(h:ziP a b k d c)(ha:a.length<=k)(hb:b.length<=k):d=zeu k (bv a+bv b).toNat:=by
 have e:=h.sum;rw [List.take_of_length_le ha,List.take_of_length_le hb] at e;have h1:=zlo h.bits;have h2:=bv_bd h.bits;have h3:=h.carry;rw [h.len] at h1 h2;have hp:(2:Int)^k=((2^k:Nat):Int):=by rw [Int.natCast_pow];rfl
 rw [h1,<-zqe k (bv a+bv b).toNat];congr 1;rw [e];obtain⟨c0,c1⟩:=h3;obtain⟨o,ho⟩:=Int.eq_ofNat_of_zero_le h2.1;obtain⟨c,rfl⟩:=Int.eq_ofNat_of_zero_le c0;rw [hp,ho] at h2;rw [ho,hp,<-Int.natCast_mul,<-Int.natCast_add,Int.toNat_natCast,Int.toNat_natCast,Nat.add_mul_mod_self_left];exact(Nat.mod_eq_of_lt om9).symm
theorem znd (y k:Nat):y%2^(k+1)=y%2^k+2^k*(y / 2^k%2):=by rw [Nat.pow_succ,Nat.mod_mul]
structure zgL (x y c k:Nat)(out:List Int)(b:Int):Prop where
 len:out.length=k
 bits:zix out
 lack:Bit b
 sum:bv out - 2^k*b=((x%2^k:Nat):Int) - ((y%2^k:Nat):Int) - (if k=0 then 0 else(c:Int)%2)
 first:k=0->b=0
theorem zgL.start (x y c:Nat):zgL x y c 0 [] 0:=⟨rfl,by intro b hb;simp at hb,by unfold Bit;omega,by simp [bv,Nat.mod_one],λ_=>rfl⟩
def zky (x y c k:Nat)(b:Int):Int:=((x / 2^k%2:Nat):Int) - ((y / 2^k%2:Nat):Int) - b - (if k=0 then(c:Int)%2 else 0)
theorem lessD_bd {x y c k:Nat}{b:Int}(hb:Bit b)(h0:k=0->b=0): -2<=zky x y c k b/\zky x y c k b<=1:=by
 unfold Bit at hb;unfold zky
 split
 ·rename_i h;have:=h0 h;omega
 ·omega
theorem zgL.step {x y c k:Nat}{f:List Int}{b d b':Int}(h:zgL x y c k f b)(hd:d=zky x y c k b+2*b')(a:b'=if zky x y c k b<0 then 1 else 0):zgL x y c (k+1) (f++[d]) b':=by
 have hbd:=lessD_bd (x:=x) (y:=y) (c:=c) h.lack h.first;have hB:Bit b':=by unfold Bit;split at a<;>omega
 refine⟨by simp [h.len],zij h.bits (by intro z hz;simp at hz;subst hz;unfold Bit;split at a<;>omega),hB,?_,om9⟩;have e:=h.sum;rw [zgl,h.len,znd x k,znd y k];simp only [bv,Int.mul_zero,Int.add_zero,if_neg (Nat.succ_ne_zero k)];have hD:(if k=0 then(0:Int) else(c:Int)%2)+(if k=0 then(c:Int)%2 else 0)=(c:Int)%2:=by split<;>omega
 have g:2^k*(if k=0 then(c:Int)%2 else 0)=(if k=0 then(c:Int)%2 else 0):=by
  split
  ·rename_i h;subst h;simp
  ·simp
 have e1:(2:Int)^k*d=2^k*((x / 2^k%2:Nat):Int) - 2^k*((y / 2^k%2:Nat):Int) - 2^k*b - 2^k*(if k=0 then(c:Int)%2 else 0)+2^k*(2*b'):=by
  rw [hd];unfold zky;rw [Int.mul_add,Int.mul_sub,Int.mul_sub,Int.mul_sub]
 have e2:(2:Int)^(k+1)*b'=2^k*(2*b'):=by rw [Int.pow_succ,Int.mul_assoc]
 have e3:((x%2^k+2^k*(x / 2^k%2):Nat):Int)=((x%2^k:Nat):Int)+2^k*((x / 2^k%2:Nat):Int):=by rw [Int.natCast_add,Int.natCast_mul,Int.natCast_pow];rfl
 have e4:((y%2^k+2^k*(y / 2^k%2):Nat):Int)=((y%2^k:Nat):Int)+2^k*((y / 2^k%2:Nat):Int):=by rw [Int.natCast_add,Int.natCast_mul,Int.natCast_pow];rfl
 rw [e3,e4];rw [g] at e1;omega
theorem zgL.done {x y c:Nat}{d:List Int}{b:Int}(h:zgL x y c 64 d b)(hx:x<18446744073709551616)(hy:y<18446744073709551616):bv d=zge x y c/\b=zgd x y c:=by
 have e:=h.sum;have a:=bv_bd h.bits;have hl:=h.lack;rw [h.len] at a;rw [show x%2^64=x from Nat.mod_eq_of_lt om9,show y%2^64=y from Nat.mod_eq_of_lt om9] at e;simp only [show(2:Int)^64=18446744073709551616 from by decide,show ¬(64:Nat)=0 from by decide,if_false] at e a;unfold Bit at hl;unfold zge zgd;refine⟨om9,?_⟩
 split<;>omega
set_option maxRecDepth 100000
theorem zii {x n:Nat}(hx:(dg 18446744073709551616 x).length=n+1):wd x n=x / 18446744073709551616^n/\0<wd x n/\bitLen x=64*n+bitLen (wd x n):=by
 have a:x≠0:=by rintro rfl;simp [zew] at hx
 have h1:=zbP (b:=18446744073709551616) de9 x;have h2:=(dg_ge (b:=18446744073709551616) de9 x a).2;rw [hx] at h1 h2;have h3:x / 18446744073709551616^n<18446744073709551616:=(Nat.div_lt_iff_lt_mul (Nat.pow_pos de9)).2 (by rw [Nat.mul_comm,<-Nat.pow_succ];exact h1);have h4:0<x / 18446744073709551616^n:=Nat.div_pos (by simpa using h2) (Nat.pow_pos de9);have h5:wd x n=x / 18446744073709551616^n:=Nat.mod_eq_of_lt h3;refine⟨h5,om9,?_⟩;rw [h5];have e:(18446744073709551616:Nat)^n=2^(64*n):=by rw [show(18446744073709551616:Nat)=2^64 from rfl,<-Nat.pow_mul]
 rw [e] at h4⊢;exact bitLen_shift x (64*n) om9
theorem zhr (A:oA9)(c:Nat)(w:World):Calls prog 150 #[.agg #[.slice A 0 c]] w λe w'=>e=.returned (.bool true)/\Below w.heap.size w w':=znf A 0 c w
theorem ziq (A:oA9)(n c:Nat)(hn:n≠0)(w:World):Calls prog 150 #[.agg #[.slice A n c]] w λe w'=>e=.returned (.bool false)/\Below w.heap.size w w':=by
 have:=znf A n c w;rw [decide_eq_false hn] at this;exact this
theorem zmO {x:Nat}(h:(dg 18446744073709551616 x).length=0):x=0:=by
 have h1:=zbP (b:=18446744073709551616) de9 x;rw [h] at h1;omega
theorem zjA (x:Nat)(A:oA9)(n c:Nat)(w:World)(hA:zad w x A n c)(hn:n<=1099511627776):
  Calls prog 151 #[.agg #[.slice A n c]] w λe w'=>e=.returned (.int .i64 (bitLen x:Nat))/\Below w.heap.size w w':=by
 have d:=hA.len;by_cases h0:n=0
 ·subst h0;have hx:x=0:=zmO d;subst hx;have HZ:=lh9 (λw=>zhr A c w);clear d hA;go_enter func151,ntmps151;go_wp2_with fail;refine(HZ.out _).mono ?_;rintro e w1 ⟨rfl,hb⟩;have hB:=zaa ((Below.refl _ w).alloc (Nat.le_refl _) _) hb;clear hb;go_wp2;go_ret;exact⟨rfl,hB⟩
 ·obtain⟨m,rfl⟩:∃m,n=m+1:=⟨n - 1,om9⟩;obtain⟨h1,h2,h3⟩:=zii d;have i:=zcs x m;obtain⟨ad,rfl,f,hx⟩:=zdy hA.1 (k:=m) om9;rw [zeK] at hx;have HZ:=lh9 (λw=>ziq (some ad) (m+1) c om9 w);have WL:=(λw=>word_len (wd x m:Nat) ⟨om9,om9⟩ w);have h:bitLen (wd x m)<=64:=zeO _ 64 (by simpa using i);have e:zgT ((wd x m:Nat):Int)=((bitLen (wd x m):Nat):Int):=by unfold zgT;simp
  rw [e] at WL;obtain⟨a,ha⟩:∃a,wd x m=a:=⟨_,rfl⟩;rw [ha] at hx WL h h3;obtain⟨b,g⟩:∃b,bitLen a=b:=⟨_,rfl⟩;rw [g] at WL h h3;have HW:=lh9 WL;have H3:=lh9 h3;clear WL h3 g ha e i h1 h2 d h0 hA;go_enter func151,ntmps151;go_wp2_with fail;refine(HZ.out _).mono ?_;rintro e w1 ⟨rfl,hb⟩;have hB:=zaa ((Below.refl _ w).alloc (Nat.le_refl _) _) hb;have g1:w1.cell? ⟨w.heap.size,0,none⟩=some (.slice (some ad) (m+1) c):=zac hb ((Blk.new w 37 #[.slice (some ad) (m+1) c]).cell 0);have g2:w1.cell? (ad.add m)=some (.int .u64 a):=(hB.cell (by rw [zah];exact f)).trans hx;clear hb hx;go_wp2_with fail;refine(HW.out _).mono ?_;rintro e w2 ⟨rfl,rfl⟩;go_wp2;go_ret;exact⟨by rw [H3.out];go_num,hB⟩
theorem kpow (k:Nat):18446744073709551616^(k / 64)*2^(k%64)=2^k:=by
 rw [show(18446744073709551616:Nat)=2^64 from rfl,<-Nat.pow_mul,<-Nat.pow_add,Nat.div_add_mod]
theorem zjV {r:Nat}(h:r<=64):2^(64 - r)*2^r=18446744073709551616:=by
 rw [<-Nat.pow_add,Nat.sub_add_cancel h]
theorem or_apart {i a b:Nat}(h:b<2^i):2^i*a|||b=2^i*a+b:=(Nat.two_pow_add_eq_or_of_lt h a).symm
theorem zqN {i a b:Nat}(h:b<2^i):b|||2^i*a=2^i*a+b:=by rw [Nat.or_comm];exact or_apart h
theorem zpJ {i a b:Nat}(h:b<2^i)(hab:2^i*a+b<18446744073709551616):bits .or .u64 (b:Int) ((2^i*a:Nat):Int)=((2^i*a+b:Nat):Int):=by
 rw [bits_or_u64_nat _ _ om9 om9,zqN h]
theorem zpS (a r:Nat)(hr:r<=64):a*2^r%18446744073709551616=2^r*(a%2^(64 - r)):=by
 rw [<-zjV hr,Nat.mul_comm (2^(64 - r)),Nat.mul_comm a,Nat.mul_mod_mul_left]
theorem wd_shr (x k i:Nat):wd (x / 2^k) i=wd x (k / 64+i) / 2^(k%64)+2^(64 - k%64)*(wd x (k / 64+i+1)%2^(k%64)):=by
 have hr:k%64<=64:=om9;have e1:x / 2^k / 18446744073709551616^i=x / 18446744073709551616^(k / 64+i) / 2^(k%64):=by
  rw [Nat.div_div_eq_div_mul,Nat.div_div_eq_div_mul,<-kpow k,Nat.pow_add];congr 1;rw [Nat.mul_assoc,Nat.mul_assoc,Nat.mul_comm (2^(k%64))]
 have e2:x / 18446744073709551616^(k / 64+i+1)=x / 18446744073709551616^(k / 64+i) / 18446744073709551616:=by
  rw [Nat.pow_succ,<-Nat.div_div_eq_div_mul]
 unfold wd;rw [e1,e2];generalize x / 18446744073709551616^(k / 64+i)=y;generalize k%64=r at*;have e3:y / 18446744073709551616%18446744073709551616%2^r=y / 18446744073709551616%2^r:=by
  refine Nat.mod_mod_of_dvd _ ?_;rw [<-zjV hr];exact Nat.dvd_mul_left _ _
 rw [e3];have e4:y=18446744073709551616*(y / 18446744073709551616)+y%18446744073709551616:=(Nat.div_add_mod _ _).symm;generalize hq:y / 18446744073709551616=q at*;generalize hm:y%18446744073709551616=m at*;have a:m<18446744073709551616:=om9;subst e4;rw [<-zjV hr] at a⊢;have e5:2^(64 - r)*2^r*q+m=m+2^r*(2^(64 - r)*q):=by rw [Nat.add_comm,Nat.mul_comm (2^(64 - r)) (2^r),Nat.mul_assoc]
 rw [e5,Nat.add_mul_div_left _ _ (Nat.two_pow_pos r)];have e6:m / 2^r<2^(64 - r):=(Nat.div_lt_iff_lt_mul (Nat.two_pow_pos r)).2 a;have e7:2^(64 - r)*q=2^(64 - r)*2^r*(q / 2^r)+2^(64 - r)*(q%2^r):=by
  rw [Nat.mul_assoc,<-Nat.mul_add,Nat.div_add_mod]
 rw [e7,Nat.add_comm (2^(64 - r)*2^r*(q / 2^r)),<-Nat.add_assoc,Nat.add_mul_mod_self_left];refine Nat.mod_eq_of_lt ?_;have e8:q%2^r<2^r:=Nat.mod_lt _ (Nat.two_pow_pos r);have e9:2^(64 - r)*(q%2^r+1)<=2^(64 - r)*2^r:=Nat.mul_le_mul_left _ e8;rw [Nat.mul_add] at e9;omega
def zcp (y i:Nat):List Nat:=(List.range i).map (wd y)
theorem zcB (y i:Nat):(zcp y i).length=i:=by simp [zcp]
theorem zfO (y i:Nat):zcp y (i+1)=zcp y i++[wd y i]:=by simp [zcp,List.range_succ]
theorem zjk (y i:Nat):Dgs 18446744073709551616 (zcp y i):=by
 intro d hd;obtain⟨j,_,rfl⟩:=List.mem_map.1 hd;exact zcs y j
theorem zkt (y:Nat):∀i,dv 18446744073709551616 (zcp y i)=y%18446744073709551616^i
 |0=>by simp [zcp,dv,Nat.mod_one]
 |i+1=>by rw [zfO,zbF,zkt y i,zcB,zba 18446744073709551616 y i];rfl
theorem zjj {y i:Nat}(h:(dg 18446744073709551616 y).length<=i):dv 18446744073709551616 (zcp y i)=y:=by
 rw [zkt];exact Nat.mod_eq_of_lt (Nat.lt_of_lt_of_le (zbP de9 y) (Nat.pow_le_pow_right de9 h))
theorem zlg (m:Nat):IntKind.u64.wrap (m:Int)=((m%18446744073709551616:Nat):Int):=by
 simp [IntKind.wrap,IntKind.bits,IntKind.signed]
theorem zns {a b r:Nat}(ha:a<18446744073709551616)(hr:r<64):
  bits .or .u64 ((a:Int) / 2^r) (IntKind.u64.wrap ((b:Int)*2^(64 - r)))=((a / 2^r+2^(64 - r)*(b%2^r):Nat):Int):=by
 have e1:(a:Int) / 2^r=((a / 2^r:Nat):Int):=si9;have e2:(b:Int)*2^(64 - r)=((b*2^(64 - r):Nat):Int):=si9;have e3:b*2^(64 - r)%18446744073709551616=2^(64 - r)*(b%2^r):=by
  rw [zpS b (64 - r) om9,show 64 - (64 - r)=r from by omega]
 rw [e1,e2,zlg,e3];have h1:a / 2^r<2^(64 - r):=(Nat.div_lt_iff_lt_mul (Nat.two_pow_pos r)).2 (by rw [zjV om9];exact ha);have h2:b%2^r<2^r:=Nat.mod_lt _ (Nat.two_pow_pos r);have h3:2^(64 - r)*(b%2^r+1)<=2^(64 - r)*2^r:=Nat.mul_le_mul_left _ h2;rw [zjV om9,Nat.mul_add] at h3;rw [zpJ h1 om9,Nat.add_comm]
structure zff (x m k:Nat)(out:List Nat)(c:Nat):Prop where
 len:out.length=k
 dgs:Dgs 18446744073709551616 out
 carry:c<m
 sum:dv 18446744073709551616 out+18446744073709551616^k*c=x%18446744073709551616^k*m
theorem zff.start (x m:Nat)(hm:0<m):zff x m 0 [] 0:=⟨rfl,by intro d hd;simp at hd,hm,by simp [dv,Nat.mod_one]⟩
theorem zff.step {x m k c s:Nat}{a:List Nat}(h:zff x m k a c)(hs:s=wd x k*m+c):zff x m (k+1) (a++[s%18446744073709551616]) (s / 18446744073709551616):=by
 have h1:=zcs x k;have h3:=h.carry;have h4:(wd x k+1)*m<=18446744073709551616*m:=Nat.mul_le_mul_right m h1;rw [Nat.add_mul] at h4;refine⟨by simp [h.len],h.dgs.append (by intro d hd;simp at hd;subst hd;exact Nat.mod_lt _ de9),(Nat.div_lt_iff_lt_mul de9).2 (by rw [Nat.mul_comm m];omega),?_⟩;have e:=h.sum;have e2:18446744073709551616^k*(s%18446744073709551616)+18446744073709551616^k*(18446744073709551616*(s / 18446744073709551616))=18446744073709551616^k*s:=by rw [<-Nat.mul_add,Nat.mod_add_div]
 have e3:18446744073709551616^k*s=18446744073709551616^k*wd x k*m+18446744073709551616^k*c:=by rw [hs,Nat.mul_add,Nat.mul_assoc]
 rw [zbF,h.len,Nat.pow_succ,Nat.mul_assoc (18446744073709551616^k) 18446744073709551616,<-Nat.pow_succ,zba 18446744073709551616 x k,Nat.add_mul];unfold wd at e3;omega
theorem zff.done {x m n q c:Nat}{a:List Nat}(h:zff x m n a c)(hx:(dg 18446744073709551616 x).length<=n):dv 18446744073709551616 (List.replicate q 0++a++[c])=18446744073709551616^q*m*x:=by
 have e:=h.sum;have h1:x<18446744073709551616^n:=Nat.lt_of_lt_of_le (zbP de9 x) (Nat.pow_le_pow_right de9 hx);rw [Nat.mod_eq_of_lt h1] at e;rw [List.append_assoc,zbA,zeT,List.length_replicate,zbF,h.len,e,Nat.zero_add,Nat.mul_assoc,Nat.mul_comm m]
theorem zpR (a:Nat){r:Nat}(hr:r<64):∃hi lo:Nat,a / 2^(64 - r)=hi/\2^r*(a%2^(64 - r))=lo/\a*2^r=18446744073709551616*hi+lo/\lo+2^r<=18446744073709551616:=by
 refine⟨_,_,rfl,rfl,?_,?_⟩
 ·rw [<-zjV (r:=r) om9,Nat.mul_assoc,Nat.mul_comm (2^r) (a / 2^(64 - r)),<-Nat.mul_assoc,Nat.mul_comm (2^r),<-Nat.add_mul,Nat.div_add_mod]
 ·have h2:a%2^(64 - r)<2^(64 - r):=Nat.mod_lt _ (Nat.two_pow_pos _);have h3:2^r*(a%2^(64 - r)+1)<=2^r*2^(64 - r):=Nat.mul_le_mul_left _ h2;rw [Nat.mul_comm (2^r) (2^(64 - r)),zjV om9,Nat.mul_add,Nat.mul_one] at h3;exact h3
theorem shl_cell {a c r:Nat}(hr:r<64)(hc:c<2^r):bits .or .u64 (c:Int) (IntKind.u64.wrap ((a:Int)*2^r))=(((a*2^r+c)%18446744073709551616:Nat):Int):=by
 have e2:(a:Int)*2^r=((a*2^r:Nat):Int):=si9;obtain⟨hi,lo,e3,e4,e5,e6⟩:=zpR a hr;have e7:2^r*(a%2^(64 - r))+c<18446744073709551616:=by rw [e4];omega
 rw [e2,zlg,zpS a r om9,zpJ hc e7,e4,e5];generalize 2^r=p at*;omega
theorem zrj {a c r:Nat}(hr:r<64)(hc:c<2^r):(a:Int) / 2^(64 - r)=(((a*2^r+c) / 18446744073709551616:Nat):Int):=by
 have e1:(a:Int) / 2^(64 - r)=((a / 2^(64 - r):Nat):Int):=si9;obtain⟨hi,lo,e3,e4,e5,e6⟩:=zpR a hr;rw [e1,e3,e5];generalize 2^r=p at*;omega
theorem set_two {α:Type}{P R:List α}{j:Nat}{c z a b:α}(h:P.length=j):((P++c::z::R).set j a).set (j+1) b=P++a::b::R:=by
 subst h;rw [List.set_append_right _ _ (Nat.le_refl _),Nat.sub_self,List.set_cons_zero,List.set_append_right _ _ om9];simp
theorem znz (n:Nat):zaF .u64 (List.replicate (n+1) 0)=.int .u64 0::zaF .u64 (List.replicate n 0):=by simp [zaF,List.replicate_succ]
theorem zpI (cs:Array Value)(l:List Nat)(w:World)(g n x:Nat)(hk:Blk w g 160 cs)(hn:cs.size=n)(hv:cs.toList=zaF .u64 l)(hd:Dgs 18446744073709551616 l)(hx:dv 18446744073709551616 l=x)(hs:n<=1000):
  Calls prog 149 #[.slice (some ⟨g,0,none⟩) n n] w (zaS w x):=by
 have hl:l.length=n:=by
  have h:=congrArg List.length hv;rw [zaL] at h;rw [<-h];simpa using hn
 have:=zcZ (some ⟨g,0,none⟩) n n l w (zea hk hn (by rw [hv,List.take_of_length_le (by rw [zaL];omega)]) hl) hd (Nat.le_refl _) om9 om9;rw [hx] at this;exact this
theorem dgs1 (a:Nat)(ha:a<18446744073709551616):Dgs 18446744073709551616 [a]:=by intro d hd;simp at hd;omega
theorem zcF (w:World)(o:Obj):Below w.heap.size w (w.alloc o):=(Below.refl _ w).alloc (Nat.le_refl _) o
theorem len_of {w:World}{x:Nat}{A:oA9}{n c:Nat}{l:List Nat}(h:zad w x A n c)(hx:dg 18446744073709551616 x=l):n=l.length:=by rw [<-h.len,hx]
def Sz (K x:Nat):Prop:=x<18446744073709551616^K
theorem Sz.of_le {K x y:Nat}(h:Sz K x)(hy:y<=x):Sz K y:=Nat.lt_of_le_of_lt hy h
theorem Sz.up {K K' x:Nat}(h:Sz K x)(hk:K<=K'):Sz K' x:=Nat.lt_of_lt_of_le h (Nat.pow_le_pow_right de9 hk)
theorem Sz.add {K x y:Nat}(h:Sz K x)(h':Sz K y):Sz (K+1) (x+y):=by
 unfold Sz at*;rw [Nat.pow_succ];omega
theorem Sz.mul {K K' x y:Nat}(h:Sz K x)(h':Sz K' y):Sz (K+K') (x*y):=by
 unfold Sz at*;rw [Nat.pow_add];exact Nat.mul_lt_mul'' h h'
theorem Sz.len {K x:Nat}(h:Sz K x):(dg 18446744073709551616 x).length<=K:=zcH de9 _ _ h
theorem Sz.words {K x:Nat}(h:Sz K x){w:World}{A:oA9}{n c:Nat}(hw:zad w x A n c):n<=K:=by rw [<-hw.len];exact h.len
theorem zes {x:Nat}(h:x=0){w:World}{A:oA9}{n c:Nat}(hA:zad w x A n c):Calls prog 150 #[.agg #[.slice A n c]] w λe w'=>e=.returned (.bool true)/\Below w.heap.size w w':=by
 subst h;obtain rfl:n=0:=len_of hA (zew _);exact zhr A c w
theorem zeG {x:Nat}(h:x≠0){w:World}{A:oA9}{n c:Nat}(hA:zad w x A n c):Calls prog 150 #[.agg #[.slice A n c]] w λe w'=>e=.returned (.bool false)/\Below w.heap.size w w':=
 ziq A n c (λh0=>h (zmO (by rw [hA.len];exact h0))) w
theorem cmpEq {x y:Nat}(h:x=y){w:World}{A D:oA9}{n m c d:Nat}(hA:zad w x A n c)(hD:zad w y D m d)(hn:n<=1099511627776)(hm:m<=1099511627776):
  Calls prog 101 #[.agg #[.slice A n c],.agg #[.slice D m d]] w (zcL w 0):=by
 have:=zfo x y A D n m c d w hA hD hn hm;rwa [zgm h] at this
