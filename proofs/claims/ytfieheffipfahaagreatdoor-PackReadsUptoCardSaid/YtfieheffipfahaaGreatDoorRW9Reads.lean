/- What this claim leans on. -/
import Derived.Test.YtfieheffipfahaaGreatDoorRJ9Enc
import Derived.Test.YtfieheffipfahaaGreatDoorRR9E
import Derived.Test.YtfieheffipfahaaGreatDoorRR9F
import Derived.Test.YtfieheffipfahaaGreatDoorRW8Like
namespace Go.Proofs.YtfieheffipfahaaGreatDoor
open Go Go.RowKit
set_option maxHeartbeats 16000000
set_option maxRecDepth 100000
set_option linter.unusedVariables false
set_option linter.unusedSimpArgs false
theorem fit_sz9 {r : Rat} (h : Fit9 r) : SzQ 255 r:=by
 have hb : ∀ x,zcp x ≤ 255 → Sz 255 x:=fun x hx => by
  have h1:=zaU (b:=256) (by decide) x
  exact Nat.lt_of_lt_of_le h1 (Nat.le_trans (Nat.pow_le_pow_right (by decide) hx) (Nat.pow_le_pow_left (by decide) _))
 exact ⟨hb _ h.2,hb _ h.1⟩
theorem text_sz9 {q : Rat} {K : Nat} (hK : 0 < K) (h : (zcg q).length ≤ 16 * K) : SzQ K q:=by
 unfold zcg at h
 rw [List.length_append] at h
 have hn : (zbf q.num.natAbs).length ≤ (zbn q.num).length:=by unfold zbn; split <;> simp
 have h1:=zdJ (n:=K) (zfN q.num.natAbs) (by omega)
 rw [zfA] at h1
 refine ⟨h1,?_⟩
 by_cases hd : q.den = 1
 ·rw [hd]; exact zoZ hK
 ·rw [if_neg hd,List.length_cons] at h
  have h2:=zdJ (n:=K) (zfN q.den) (by omega)
  rwa [zfA] at h2
theorem dec_sz9 {l : List Nat} (hd : Dgs 256 l) : SzQ 255 (zdf l).2.1 ∧ (zdf l).1.named:=by
 rcases dec_er l with h | ⟨⟨m,hm,h⟩,h2⟩
 ·exact ⟨fit_sz9 (dec_back hd (r:=(zdf l).2.1) (n:=(zdf l).2.2) (Prod.ext h rfl)).1,by rw [h]; trivial⟩
 ·refine ⟨by rw [h2]; exact SzQ.zero.up (by decide),?_⟩
  rcases h with h | ⟨s,k,hs,h⟩ <;> rw [h]
  ·trivial
  ·exact hs
theorem read_sz9 {s : List UInt8} (hl : s.length ≤ 300) : SzQ 255 (zbT s).2 ∧ (zbT s).1.named:=by
 rcases read_er s with h | ⟨h,h2⟩
 ·exact ⟨text_sz9 (by decide) (by rw [zkE (s:=s) (r:=(zbT s).2) (Prod.ext h rfl)]; omega),by rw [h]; trivial⟩
 ·refine ⟨by rw [h2]; exact SzQ.zero.up (by decide),?_⟩
  rcases h with h | ⟨t,k,hs,h⟩ <;> rw [h]
  ·trivial
  ·exact hs
theorem zjA (A0 : oA9) (n0 c0 : Nat) (l0 : List Nat) (s1 : ByteArray) (w : World) (h0 : zgn w A0 n0 c0 l0) (y1 : s1.size ≤ 1048576) (hT : Tab9 w) (hs : ¬ (n0 ≤ 600 ∧ s1.size ≤ 300)) :
  Calls Tryz.prog 4 #[.slice A0 n0 c0,.string s1] w fun e w' => e = .returned (.bool true) ∧ Below w.heap.size w w':=by
 have HT:=lh9 (fun w' (hb : Below w.heap.size w w') => hT.on hb)
 have HAW:=lh9 (fun w' (hb : Below w.heap.size w w') => ziN w' (hT.on hb))
 clear h0
 go_enter Tryz.func4,Tryz.ntmps4
 have hB:=Below.refl w.heap.size w
 go_wp2_with fail
 refine (HAW.out _ hB).mono ?_
 rintro e w1 ⟨rfl,hb⟩
 have hB:=zac hB hb
 clear hb HAW
 by_cases hn : n0 ≤ 600
 ·have j1 : ¬ ((600 : Int) < (n0 : Int)):=by omega
  have j2 : (300 : Int) < (s1.size : Int):=by omega
  clear hs hn
  go_wp2
  go_ret
  exact ⟨rfl,hB⟩
 ·have j1 : (600 : Int) < (n0 : Int):=by omega
  clear hs hn
  go_wp2
  go_ret
  exact ⟨rfl,hB⟩
theorem zhP (A0 : oA9) (n0 c0 : Nat) (l0 : List Nat) (s1 : ByteArray) (w : World) (h0 : zgn w A0 n0 c0 l0) (y1 : s1.size ≤ 1048576) (hT : Tab9 w) (hs0 : n0 ≤ 600) (hs1 : s1.size ≤ 300) :
  Calls Tryz.prog 4 #[.slice A0 n0 c0,.string s1] w fun e w' => e = .returned (.bool true) ∧ Below w.heap.size w w':=by
 have HT:=lh9 (fun w' (hb : Below w.heap.size w w') => hT.on hb)
 have HAW:=lh9 (fun w' (hb : Below w.heap.size w w') => ziN w' (hT.on hb))
 have hb0 : zaB w l0 A0 n0 c0:=⟨h0.reads,h0.dgs,h0.fits,by have:=h0.small; omega⟩
 have hn0 : n0 ≤ 2147483648:=by omega
 have HD:=lh9 (fun w' (hb : Below w.heap.size w w') => zmL l0 A0 n0 c0 w' (hT.on hb).1 (hb0.below hb) hn0)
 have HR:=lh9 (fun w' (hb : Below w.heap.size w w') => zpG s1.data.toList w' (hT.on hb).1 (by rw [zeN]; omega))
 have HGD:=lh9 (fun w' (hb : Below w.heap.size w w') => znf l0 A0 n0 c0 w' (hb0.below hb) hn0)
 have HGR:=lh9 (fun w' => zpT s1.data.toList w' (by rw [zeN]; omega))
 have z1:=dec_sz9 h0.dgs
 have z2:=read_sz9 (s:=s1.data.toList) (by rw [zeN]; omega)
 have HL1:=lh9 (fun v w' h hg => zkg (zdf l0).1 v w' h hg z1.2)
 have HL2:=lh9 (fun v w' h hg => zkg (zbT s1.data.toList).1 v w' h hg z2.2)
 have HZ1:=lh9 z1.1
 have HZ2:=lh9 z2.1
 unfold zbd at HD
 unfold zcX at HR
 unfold zjK at HGD
 unfold zlM at HGR
 obtain ⟨t,ht⟩ : ∃ t,zdf l0 = t:=⟨_,rfl⟩
 obtain ⟨u,hu⟩ : ∃ t,zbT s1.data.toList = t:=⟨_,rfl⟩
 have hs9 : zau s1.data.toList = s1:=zlD s1
 clear z1 z2
 rw [ht] at HZ1
 rw [hu] at HZ2
 simp only [ht] at HD HGD HL1
 simp only [hu,hs9] at HR HGR HL2
 obtain ⟨er,r,m⟩:=t
 obtain ⟨fr,q⟩:=u
 dsimp only at HD HGD HL1 HR HGR HL2 HZ1 HZ2
 obtain ⟨en,hen⟩ : ∃ b,er.n = b:=⟨_,rfl⟩
 obtain ⟨es,hes⟩ : ∃ b,er.s = b:=⟨_,rfl⟩
 obtain ⟨ek,hek⟩ : ∃ b,er.k = b:=⟨_,rfl⟩
 obtain ⟨fn,hfn⟩ : ∃ b,fr.n = b:=⟨_,rfl⟩
 obtain ⟨fs,hfs⟩ : ∃ b,fr.s = b:=⟨_,rfl⟩
 obtain ⟨fk,hfk⟩ : ∃ b,fr.k = b:=⟨_,rfl⟩
 simp only [hen,hes,hek] at HGD HL1
 simp only [hfn,hfs,hfk] at HGR HL2
 obtain ⟨K,hK⟩ : ∃ K,255 = K:=⟨_,rfl⟩
 have hKK : K ≤ 16777216:=by omega
 rw [hK] at HZ1 HZ2
 have j1 : ¬ ((600 : Int) < (n0 : Int)):=by omega
 have j2 : ¬ ((300 : Int) < (s1.size : Int)):=by omega
 clear hT h0 hb0 hn0 y1 ht hu hs9 hen hes hek hfn hfs hfk hK hs0 hs1
 go_enter Tryz.func4,Tryz.ntmps4
 have hB:=Below.refl w.heap.size w
 go_wp2_with fail
 refine (HAW.out _ hB).mono ?_
 rintro e w1 ⟨rfl,hb⟩
 have hB:=zac hB hb
 clear hb HAW
 go_wp2_with fail
 refine (HD.out _ hB).mono ?_
 rintro e w2 ⟨bx,Bx,mx,dx,Fx,gx,fx,ev5,rfl,hx,he,hb⟩
 have hB:=zac hB hb
 clear hb HD j1 j2
 obtain ⟨bx1,bx2,bz⟩:=zaz w2 33 #[.bool bx,.slice Bx mx dx,.slice Fx gx fx]
 have hx:=hx.below bx1
 have he:=he.below bx1
 have hB:=zac hB bx1
 have kx:=bx2
 clear bx1 bx2 bz
 go_upto_region 6 with fail
 generalize w2.alloc (.cells #[.bool bx,.slice Bx mx dx,.slice Fx gx fx] 33) = X3 at *
 obtain ⟨qx,hq⟩ : ∃ q,w2.heap.size = q:=⟨_,rfl⟩
 rw [hq] at kx ⊢
 clear hq
 go_wp2_with fail
 refine (HGD.out _ hB).mono ?_
 rintro e w4 ⟨bp,Bp,mp,dp,Fp,gp,fp,rfl,hp,hb⟩
 have hx:=hx.below hb
 have he:=he.below hb
 have kx:=zae hb kx
 have hB:=zac hB hb
 clear hb HGD
 obtain ⟨bx1,bx2,bx3,bz⟩:=zbD w4 40 49 #[.bool bp,.slice Bp mp dp,.slice Fp gp fp] #[.int .i64 en,.string es,.int .i64 ek]
 have hx:=hx.below bx1
 have he:=he.below bx1
 have kx:=zae bx1 kx
 have hp:=hp.below bx1
 have hB:=zac hB bx1
 have kp:=bx2
 have kf:=bx3
 clear bx1 bx2 bx3 bz
 go_upto_region 7 with fail
 generalize (w4.alloc (.cells #[.bool bp,.slice Bp mp dp,.slice Fp gp fp] 40)).alloc (.cells #[.int .i64 en,.string es,.int .i64 ek] 49) = X5 at *
 obtain ⟨qp,hq⟩ : ∃ q,w4.heap.size = q:=⟨_,rfl⟩
 rw [hq] at kp kf ⊢
 clear hq
 go_wp2_with fail
 refine (HR.out _ hB).mono ?_
 rintro e w6 ⟨bz,Bz,mz,dz,Fz,gz,fz,ev6,rfl,hz,hf,hb⟩
 have hx:=hx.below hb
 have he:=he.below hb
 have kx:=zae hb kx
 have hp:=hp.below hb
 have kp:=zae hb kp
 have kf:=zae hb kf
 have hB:=zac hB hb
 clear hb HR
 obtain ⟨bx1,bx2,bz⟩:=zaz w6 33 #[.bool bz,.slice Bz mz dz,.slice Fz gz fz]
 have hx:=hx.below bx1
 have he:=he.below bx1
 have kx:=zae bx1 kx
 have hp:=hp.below bx1
 have kp:=zae bx1 kp
 have kf:=zae bx1 kf
 have hz:=hz.below bx1
 have hf:=hf.below bx1
 have hB:=zac hB bx1
 have kz:=bx2
 clear bx1 bx2 bz
 go_upto_region 8 with fail
 generalize w6.alloc (.cells #[.bool bz,.slice Bz mz dz,.slice Fz gz fz] 33) = X7 at *
 obtain ⟨qz,hq⟩ : ∃ q,w6.heap.size = q:=⟨_,rfl⟩
 rw [hq] at kz ⊢
 clear hq
 go_wp2_with fail
 refine (HGR.out _).mono ?_
 rintro e w8 ⟨bt,Bt,mt,dt,Ft,gt,ft,rfl,ht,hb⟩
 have hx:=hx.below hb
 have he:=he.below hb
 have kx:=zae hb kx
 have hp:=hp.below hb
 have kp:=zae hb kp
 have kf:=zae hb kf
 have hz:=hz.below hb
 have hf:=hf.below hb
 have kz:=zae hb kz
 have hB:=zac hB hb
 clear hb HGR
 obtain ⟨bx1,bx2,bx3,bz⟩:=zbD w8 40 49 #[.bool bt,.slice Bt mt dt,.slice Ft gt ft] #[.int .i64 fn,.string fs,.int .i64 fk]
 have hx:=hx.below bx1
 have he:=he.below bx1
 have kx:=zae bx1 kx
 have hp:=hp.below bx1
 have kp:=zae bx1 kp
 have kf:=zae bx1 kf
 have hz:=hz.below bx1
 have hf:=hf.below bx1
 have kz:=zae bx1 kz
 have ht:=ht.below bx1
 have hB:=zac hB bx1
 have kt:=bx2
 have kg:=bx3
 clear bx1 bx2 bx3 bz
 go_upto_region 9 with fail
 generalize (w8.alloc (.cells #[.bool bt,.slice Bt mt dt,.slice Ft gt ft] 40)).alloc (.cells #[.int .i64 fn,.string fs,.int .i64 fk] 49) = X9 at *
 obtain ⟨qt,hq⟩ : ∃ q,w8.heap.size = q:=⟨_,rfl⟩
 rw [hq] at kt kg ⊢
 clear hq
 obtain ⟨g1,e1,i1⟩:=kf.c3
 go_wp2_with fail
 refine (HL1.out ev5 _ he (HT.out _ hB).2).mono ?_
 rintro e w10 ⟨rfl,hb⟩
 have hx:=hx.below hb
 have he:=he.below hb
 have kx:=zae hb kx
 have hp:=hp.below hb
 have kp:=zae hb kp
 have kf:=zae hb kf
 have hz:=hz.below hb
 have hf:=hf.below hb
 have kz:=zae hb kz
 have ht:=ht.below hb
 have kt:=zae hb kt
 have kg:=zae hb kg
 have hB:=zac hB hb
 clear hb HL1 g1 e1 i1
 clear kf he
 obtain ⟨g1,e1,i1⟩:=kx.c3
 obtain ⟨g2,e2,i2⟩:=kp.c3
 go_wp2_with fail
 refine (zkf (fun _ _ h hb => h.on hb) zbh rat9 r K bx Bx mx dx Fx gx fx bp Bp mp dp Fp gp fp _ hKK HZ1.out hx hp (HT.out _ hB).1).mono ?_
 rintro e w11 ⟨rfl,hb⟩
 have hx:=hx.below hb
 have kx:=zae hb kx
 have hp:=hp.below hb
 have kp:=zae hb kp
 have hz:=hz.below hb
 have hf:=hf.below hb
 have kz:=zae hb kz
 have ht:=ht.below hb
 have kt:=zae hb kt
 have kg:=zae hb kg
 have hB:=zac hB hb
 clear hb HZ1 g1 e1 i1 g2 e2 i2
 clear kx kp hx hp
 obtain ⟨g1,e1,i1⟩:=kg.c3
 go_wp2_with fail
 refine (HL2.out ev6 _ hf (HT.out _ hB).2).mono ?_
 rintro e w12 ⟨rfl,hb⟩
 have hz:=hz.below hb
 have hf:=hf.below hb
 have kz:=zae hb kz
 have ht:=ht.below hb
 have kt:=zae hb kt
 have kg:=zae hb kg
 have hB:=zac hB hb
 clear hb HL2 g1 e1 i1
 clear kg hf
 obtain ⟨g1,e1,i1⟩:=kz.c3
 obtain ⟨g2,e2,i2⟩:=kt.c3
 go_wp2_with fail
 refine (zkf (fun _ _ h hb => h.on hb) zbh rat9 q K bz Bz mz dz Fz gz fz bt Bt mt dt Ft gt ft _ hKK HZ2.out hz ht (HT.out _ hB).1).mono ?_
 rintro e w13 ⟨rfl,hb⟩
 have hz:=hz.below hb
 have kz:=zae hb kz
 have ht:=ht.below hb
 have kt:=zae hb kt
 have hB:=zac hB hb
 clear hb HZ2 g1 e1 i1 g2 e2 i2
 clear kz kt hz ht
 go_wp2
 go_ret
 exact ⟨by first | rfl | simp,hB⟩
theorem packReads_core (A0 : oA9) (n0 c0 : Nat) (l0 : List Nat) (s1 : ByteArray) (w : World) (h0 : zgn w A0 n0 c0 l0) (y1 : s1.size ≤ 1048576) (hT : Tab9 w) :
  Calls Tryz.prog 4 #[.slice A0 n0 c0,.string s1] w fun e w' => e = .returned (.bool true) ∧ Below w.heap.size w w':=by
 by_cases hs : n0 ≤ 600 ∧ s1.size ≤ 300
 ·exact zhP A0 n0 c0 l0 s1 w h0 y1 hT hs.1 hs.2
 ·exact zjA A0 n0 c0 l0 s1 w h0 y1 hT hs
end Go.Proofs.YtfieheffipfahaaGreatDoor
