/- What this claim leans on. -/
import Derived.Test.YtcojjcjgbepicaaGreatDoorHUArgs2
namespace Go.Proofs.YtcojjcjgbepicaaGreatDoor
open Go Go.RowKit Go.Proofs.Tryz
set_option maxHeartbeats 16000000
set_option maxRecDepth 100000
set_option linter.unusedVariables false
theorem zhL (A:oA9)(n c:Nat)(l:List Nat)(w:World)(hA:zav w w.heap.size 1 A n (zaw .i64 l))(hl:Dgs 65536 l)(hc:n<=c)(hc':c<=9223372036854775807)(hn:n<=1099511627776):
  Calls prog 179 #[.slice A n c] w (zbA w (dv 65536 l)):=by
 obtain⟨i0,p,r,t,u⟩:=info_parts ziZ;have HL:=lh9 hA.len_;go_enter func179,ntmps179;go_wp2
 go_loop [3] (λs=>∃m:Nat,m<=n/\s=.int .i64 m/\Hid (dv 65536 (l.take m)=dv 65536 l)) (λs=>(intOf s).toNat)
 case atStart=>exact⟨n,Nat.le_refl _,rfl,by show _=_;rw [List.take_of_length_le (by have:=HL.out;omega)]⟩
 case round=>
  obtain⟨m,hm,rfl,H⟩:=hrel;have done:(m=0\/l.getD (m - 1) 0≠0)->∀w' v,w'.ownsRow w.heap.size 3 1 v (0+m) ([]++zaw .i64 (l.take m))->Below w.heap.size w w'->zbA w (dv 65536 l) (.returned v) w':=by
   intro hz w' v ho hb;have e:=zpp de9 hl (by have:=HL.out;omega) H.out hz;unfold zbA;have e2:(dg 65536 (dv 65536 l)).length=0+m:=by rw [<-e,List.length_take];have:=HL.out;omega
   rw [e2,<-e];exact zfb (by simpa using ho) hb
  have DN:=lh9 done;clear done;have f:=hA.take_ hm;rw [zkQ] at f;by_cases hm0:m=0
  ·subst hm0;go_wp2_with (at_builtin;refine zdo _ rfl (.tmp 19) (.tmp 22) 28 rfl w.heap.size 3 i0 (.int .i64 0) 1 8 underlying28 p r t u rfl de9 (.slice none 0 0) 0 [] rfl (World.ownsRow_nil _ _ _ _) _ A 0 c (zaw .i64 (l.take 0)) rfl f (zek _ _) (by unfold maxLen;omega) om9 (Nat.le_refl _) ?_;intro v' w1 b a o);have h:Below w.heap.size w w1:=(Below.refl _ _).grown a (Nat.le_refl _) (λg hg=>by simp [Value.ownBlock] at hg);have G:=DN.out (by first|exact .inl rfl|simp) w1 v' b h;clear b a o h f;go_wp2;go_ret;exact G
  ·obtain⟨j,rfl⟩:∃j,m=j+1:=⟨m - 1,om9⟩;obtain⟨ad,rfl,hadb,i⟩:=zbF hA (k:=j) om9;by_cases hz:l.getD j 0=0
   ·have HM:=lh9 ((zkg 65536 (l:=l) (n:=j) (by have:=HL.out;omega) hz).symm.trans H.out);rw [hz] at i;clear hz f;go_wp2
    go_round
    case rel=>exact⟨j,om9,by go_num,HM⟩
    case measure=>simp only [intOf];omega
   ·have x:(((l.getD j 0:Nat):Int)==0)=false:=beq_eq_false_iff_ne.2 om9;obtain⟨d,hd⟩:∃d,l.getD j 0=d:=⟨_,rfl⟩;have HZ:=lh9 hz;rw [hd] at i x;clear hz hd;go_wp2_with (at_builtin;refine zdo _ rfl (.tmp 19) (.tmp 22) 28 rfl w.heap.size 3 i0 (.int .i64 0) 1 8 underlying28 p r t u rfl de9 (.slice none 0 0) 0 [] rfl (World.ownsRow_nil _ _ _ _) _ (some ad) (j+1) c (zaw .i64 (l.take (j+1))) rfl f (zek _ _) (by unfold maxLen;omega) om9 (Nat.le_refl _) ?_;intro v' w1 b a o);have h:Below w.heap.size w w1:=(Below.refl _ _).grown a (Nat.le_refl _) (λg hg=>by simp [Value.ownBlock] at hg);have G:=DN.out (.inr HZ.out) w1 v' b h;clear b a o h f;go_wp2;go_ret;exact G
theorem zdC {base:Nat}{t:TypeId}{v:Value}{n:Nat}{l:List Nat}{w:World}(ho:w.ownsRow base t 1 v n (zaw .i64 l))(hl:Dgs 65536 l)(hn:n<=1099511627776):
  Calls prog 179 #[v] w (zbA w (dv 65536 l)):=by
 obtain⟨A1,c1,rfl,c,b,a,_⟩:=zjl ho;exact zhL A1 n c1 l w c hl b a hn
theorem zjU (A:oA9)(n c k:Nat)(l:List Nat)(B:Nat)(w:World)(hA:zav w B 1 A n (zaw .i64 l))(hk:k<n)(hn:n<=1099511627776):
  Calls prog 187 #[.slice A n c,.int .i64 k] w λe w'=>e=.returned (.int .i64 (l.getD k 0:Nat))/\w=w':=by
 obtain⟨ad,rfl,hadb,a⟩:=zbF hA hk;obtain⟨d,hd⟩:∃d,l.getD k 0=d:=⟨_,rfl⟩;rw [hd] at a⊢;clear hd;go_enter func187,ntmps187;go_wp2;go_ret;exact⟨rfl,rfl⟩
theorem zjv (A:oA9)(n c:Nat)(k:Int)(w:World)(hk:k<0\/(n:Int)<=k):
  Calls prog 187 #[.slice A n c,.int .i64 k] w λe w'=>e=.returned (.int .i64 0)/\w=w':=by
 by_cases h:k<0
 ·go_enter func187,ntmps187;go_wp2;go_ret;exact⟨rfl,rfl⟩
 ·have h2:(n:Int)<=k:=om9;clear hk;go_enter func187,ntmps187;go_wp2;go_ret;exact⟨rfl,rfl⟩
theorem zdd (A:oA9)(n c:Nat)(k:Nat)(l:List Nat)(B:Nat)(w:World)(hA:zav w B 1 A n (zaw .i64 l))(hn:n<=1099511627776):
  Calls prog 187 #[.slice A n c,.int .i64 k] w λe w'=>e=.returned (.int .i64 (l.getD k 0:Nat))/\w=w':=by
 by_cases hk:k<n
 ·exact zjU A n c k l B w hA hk hn
 ·have e:l.getD k 0=0:=by rw [List.getD_eq_getElem?_getD,List.getElem?_eq_none (by have:=hA.len_;omega)];rfl
  rw [e];exact zjv A n c k w (.inr om9)
theorem zoW (k:Nat)(hk:k<=15)(w:World):
  Calls prog 205 #[.int .i64 k] w λe w'=>e=.returned (.int .i64 (2^k:Nat))/\w=w':=by
 go_enter func205,ntmps205;go_wp2
 go_loop [3,4] (λs i=>∃j:Nat,j<=k/\i=.int .i64 j/\s=.int .i64 (2^j:Nat)) (λ_ i=>k - (intOf i).toNat)
 case atStart=>exact⟨0,Nat.zero_le _,rfl,rfl⟩
 case round=>
  obtain⟨j,hj,rfl,rfl⟩:=hrel;have hp:2^j<=2^15:=Nat.pow_le_pow_right de9 om9;have HS:Hid (2^(j+1)=2*2^j):=by show _=_;rw [Nat.pow_succ,Nat.mul_comm]
  obtain⟨p,he⟩:∃p,2^j=p:=⟨_,rfl⟩;by_cases h:j<k
  ·rw [he] at hp HS⊢;clear he;have hp':p<=32768:=by simpa using hp
   go_wp2
   go_round
   case rel=>exact⟨j+1,om9,by go_num,by rw [HS.out];go_num⟩
   case measure=>simp only [intOf];omega
  ·have a:j=k:=om9;subst a;clear he;go_wp2;go_ret;exact⟨rfl,rfl⟩
theorem zic (k:Nat)(w:World):Calls prog 205 #[.int .i64 ((k:Int)%16)] w λe w'=>e=.returned (.int .i64 (2^(k%16):Nat))/\w=w':=by
 have h:=zoW (k%16) om9 w;rw [show((k%16:Nat):Int)=(k:Int)%16 from by omega] at h;exact h
theorem zho (x y:Nat)(A D:oA9)(n m c d:Nat)(w:World)(hA:zal w x A n c)(hD:zal w y D m d)(hn:n<=1099511627776)(hm:m<=1099511627776):
  Calls prog 85 #[.slice A n c,.slice D m d] w λe w'=>e=.returned (.int .i64 (zby x y))/\∃q,w'=w.drewN q:=by
 have f:=hA.len;have a:=hD.len;obtain⟨hA,_,_⟩:=hA;obtain⟨hD,_,_⟩:=hD;by_cases hlt:n<m
 ·have C:=lh9 (zcZ (zgD (b:=65536) de9 (x:=x) (y:=y) om9));clear f a;go_enter func85,ntmps85;go_wp2;go_ret;exact⟨by rw [C.out];rfl,0,rfl⟩
 by_cases hgt:m<n
 ·have C:=lh9 (zcY (zgD (b:=65536) de9 (x:=y) (y:=x) om9));clear f a;go_enter func85,ntmps85;go_wp2;go_ret;exact⟨by rw [C.out];rfl,0,rfl⟩
 have l:m=n:=om9;subst l;have H0:Hid (x / 65536^m=y / 65536^m):=by
  show _=_;rw [Nat.div_eq_of_lt (by rw [f];exact zbh de9 x),Nat.div_eq_of_lt (by rw [a];exact zbh de9 y)]
 clear f a hlt hgt;go_enter func85,ntmps85;go_wp2
 go_loopg [5] (m+1) (λg i wr=>∃(k q:Nat),k<=m/\i=.int .i64 ((k:Int) - 1)/\Hid (x / 65536^k=y / 65536^k)/\k<g/\wr=w.drewN q)
 case atStart=>exact⟨m,0,Nat.le_refl _,rfl,H0,Nat.lt_succ_self _,rfl⟩
 case round=>
  obtain⟨k,q,hk,rfl,H,hg,rfl⟩:=hrel;by_cases hk0:k=0
  ·subst hk0;have C:=lh9 (zdV (x:=x) (y:=y) (by have:=H.out;simpa using this));go_wp2;go_ret;exact⟨by rw [C.out];rfl,q,rfl⟩
  ·obtain⟨j,rfl⟩:∃j,k=j+1:=⟨k - 1,om9⟩;obtain⟨ad,rfl,hadb,h1⟩:=zbF hA (k:=j) om9;obtain⟨ae,rfl,haeb,h2⟩:=zbF hD (k:=j) om9;rw [zgk] at h1 h2;have L1:=lh9 (λh=>ziG (b:=65536) H.out h);have L2:=lh9 (λh=>ziG (b:=65536) H.out.symm h);have L3:=lh9 (λh=>cmp_eq (b:=65536) H.out h);obtain⟨p,hp⟩:∃p,x / 65536^j%65536=p:=⟨_,rfl⟩;obtain⟨r,hr⟩:∃p,y / 65536^j%65536=p:=⟨_,rfl⟩;rw [hp,hr] at L1 L2 L3;rw [hp] at h1;rw [hr] at h2;clear hp hr;rcases Nat.lt_trichotomy p r with h|h|h
   ·have C:=lh9 (zcZ (L1.out h));have e1:decide ((p:Int)<r)=true:=by simpa using h
    go_wp2
    go_quiet (fail)
    go_wp2;go_ret;exact⟨by rw [C.out];rfl,by simp only [World.drewN_drewN];exact⟨_,rfl⟩⟩
   ·have M:=lh9 (L3.out h);subst h;clear L1 L2 L3;go_wp2
    go_quiet (fail)
    go_wp2
    go_quiet (fail)
    go_wp2;go_roundg (j+1)
    case measure=>omega
    case rel=>exact⟨j,_,om9,by go_num,M,om9,rfl⟩
   ·have C:=lh9 (zcY (L2.out h));have e1:decide ((p:Int)<r)=false:=by simp;omega
    have e2:decide ((r:Int)<p)=true:=by simpa using h
    go_wp2
    go_quiet (fail)
    go_wp2
    go_quiet (fail)
    go_wp2;go_ret;exact⟨by rw [C.out];rfl,by simp only [World.drewN_drewN];exact⟨_,rfl⟩⟩
theorem ref2_of (A:oA9)(n c:Nat)(l:List Nat)(w:World)(hA:zav w w.heap.size 1 A n (zaw .u64 l))(hl:Dgs 18446744073709551616 l)(hn:n<=68719476736):
  Calls prog 141 #[.slice A n c] w (zbA w (dv 18446744073709551616 l)):=by
 obtain⟨i0,S,X,Y,Z⟩:=info_parts ziZ;have HL:=lh9 hA.len_;go_enter func141,ntmps141;go_wp2
 go_loopg [3,4,5,6] (n + 1) (fun g v i _ _ wr => ∃ (k : Nat) (D : List Nat),k ≤ n ∧ n < g + k ∧ i = .int .i64 k ∧ D.length = 4 * k ∧ Dgs 65536 D ∧ dv 65536 D = dv 18446744073709551616 (l.take k) ∧
   wr.ownsRow w.heap.size 3 1 v (4*k) (zaw .i64 D)/\Below w.heap.size w wr)
 case atStart=>exact⟨0,[],Nat.zero_le _,om9,rfl,rfl,by intro d hd;simp at hd,by simp [dv],World.ownsRow_nil _ _ _ _,Below.refl _ _⟩
 case round=>
  obtain⟨k,D,hk,hg,rfl,o,t,hv,p,C⟩:=hrel;by_cases hlt:k<n
  ·obtain⟨ad,rfl,J,K⟩:=zbF hA hlt;have F:wr.cell? (ad.add k)=some (.int .u64 (l.getD k 0:Nat)):=(C.cell (by rw [zan];exact J)).trans K;have hw:=hl.getD de9 k;have HT:=lh9 (zaO 18446744073709551616 l k);obtain⟨x,hx⟩:∃x,l.getD k 0=x:=⟨_,rfl⟩;rw [hx] at F hw HT;have HV:=lh9 hv;have I:=lh9 o;have N:=lh9 t;clear K hx hv o t;go_wp2
   go_loopg [3,5,6] 5 (fun g v s i wq => ∃ (j : Nat) (E : List Nat),j ≤ 4 ∧ 4 < g + j ∧ i = .int .i64 j ∧ s = .int .u64 ((x / 65536 ^ j : Nat) : Int) ∧ E.length = 4 * k + j ∧ Dgs 65536 E ∧
     dv 65536 E=dv 18446744073709551616 (l.take k)+18446744073709551616^k*(x%65536^j)/\wq.ownsRow w.heap.size 3 1 v (4*k+j) (zaw .i64 E)/\Below w.heap.size w wq)
   case atStart=>exact⟨0,D,Nat.zero_le _,om9,rfl,si9,I.out,N.out,by rw [HV.out];simp [Nat.mod_one],p,C⟩
   case round=>
    obtain⟨j,E,hj,hgj,rfl,rfl,a,h,u,f,b⟩:=hrel;by_cases hj4:j<4
    ·have HS:=lh9 (of_step (i:=k) a u);have V:x / 65536^j<18446744073709551616:=Nat.lt_of_le_of_lt (Nat.div_le_self _ _) hw;have HD:Hid (x / 65536^(j+1)=x / 65536^j / 65536):=by show _=_;rw [Nat.pow_succ,<-Nat.div_div_eq_div_mul]
     obtain⟨y,hy⟩:∃y,x / 65536^j=y:=⟨_,rfl⟩;rw [hy] at HS V HD⊢;have B:=lh9 a;have z:=lh9 h;clear hy a h u;go_wp2_with (at_builtin;refine wpList_append_own _ rfl _ _ 28 rfl w.heap.size 3 i0 (.int .i64 0) 1 8 underlying28 S X Y Z rfl de9 _ _ _ rfl (f.alloc _) ⟨wr.heap.size,0,none⟩ 1 1 [.int .i64 ((y:Int)%65536)] rfl rfl (zaQ _ _ _) (zeg _ _) (by unfold maxLen;omega) om9 (by have:=b.size;simp;omega) ?_;intro v' w1 r m _);have O:Below w.heap.size w w1:=(b.alloc b.size _).grown m (by have:=b.size;simp;omega) (λg hg=>(f.lt g hg).1);have H:w1.ownsRow w.heap.size 3 1 v' (4*k+(j+1)) (zaw .i64 (E++[y%65536])):=by
      rw [zbo];simpa [zaw,Nat.add_assoc] using r
     clear r m f b;go_wp2;go_roundg (gk - 1)
     case measure=>omega
     case rel=>exact⟨j+1,_,om9,om9,by go_num,by rw [HD.out];go_num,by simp [B.out,Nat.add_assoc],z.out.append (by intro d hd;simp at hd;subst hd;exact Nat.mod_lt _ de9),HS.out,H,O⟩
    ·have hj:j=4:=om9;subst hj;have HF:Hid (dv 65536 E=dv 18446744073709551616 (l.take (k+1))):=by
      show _=_;rw [u,HT.out,show x%65536^4=x from Nat.mod_eq_of_lt om9]
     have B:=lh9 a;have z:=lh9 h;clear u a h;go_wp2;go_roundg (n - k)
     case measure=>omega
     case rel=>exact⟨k+1,E,om9,om9,by go_num,by rw [B.out];omega,z.out,HF.out,f,b⟩
  ·have U:k=n:=om9;subst U;rw [List.take_of_length_le (by have:=HL.out;omega)] at hv;obtain⟨A1,c1,rfl,M,F,L,_⟩:=zjl p;have T:=zhL A1 (4*k) c1 D wr M t F L om9;rw [hv] at T;have HT:=lh9 T;clear T hv t o p M;go_wp2_with fail;refine HT.out.mono ?_;intro e w2 G;have Q:=G.from_ C;obtain⟨A2,n2,c2,rfl,R,P⟩:=G.elim;clear G R P;go_wp2_with fail;go_ret;exact Q
theorem zjw (x:Nat)(A:oA9)(n c:Nat)(w:World)(hA:zal w x A n c)(hn:n<=1099511627776):
  Calls prog 152 #[.slice A n c] w (zfu w x):=by
 obtain⟨i0,G,H,I,J⟩:=info_parts zfA;have z:=lh9 hA.len;have hR:=hA.1;go_enter func152,ntmps152;go_wp2
 go_loopg [3,4,5,6] (n+1) (λg v i _ _ wr=>∃(j:Nat) (L:List Nat),(j=0\/4*(j - 1)<n)/\n<g+j/\i=.int .i64 (4*(j:Int))/\zdU x j L/\wr.ownsRow w.heap.size 161 1 v j (zaw .u64 L)/\Below w.heap.size w wr)
 case atStart=>exact⟨0,[],.inl rfl,om9,rfl,zdU.start x,World.ownsRow_nil _ _ _ _,Below.refl _ _⟩
 case round=>
  obtain⟨j,L,hj,hg,rfl,l,f,d⟩:=hrel;by_cases hlt:4*j<n
  ·have HS:=lh9 l.step;have B:=hR.below d;have DG:=lh9 (fun(k:Nat)=>zdd A n c k _ _ wr B hn);clear l B;have hj40:j<=1099511627776:=om9;have hb4:decide (4*(j:Int)<(n:Int))=true:=by simp;omega
   go_wp2
   go_loopg [5,6] 5 (λg s i wq=>∃m:Nat,m<=4/\m<g/\i=.int .i64 ((m:Int) - 1)/\s=.int .u64 ((x / 65536^(4*j+m)%65536^(4 - m):Nat):Int)/\wq=wr)
   case atStart=>exact⟨4,om9,om9,rfl,by simp [Nat.mod_one],rfl⟩
   case round=>
    obtain⟨m,hm,hgm,rfl,rfl,rfl⟩:=hrel;by_cases hm0:m=0
    ·subst hm0;obtain⟨y,hy⟩:∃y,x / 65536^(4*j)%65536^4=y:=⟨_,rfl⟩;simp only [Nat.add_zero,Nat.sub_zero,hy];rw [hy] at HS;clear hy;go_wp2_with (at_builtin;refine wpList_append_own _ rfl _ _ 47 rfl w.heap.size 161 i0 (.int .u64 0) 1 8 underlying47 G H I J rfl de9 _ _ _ rfl (f.alloc _) ⟨wr.heap.size,0,none⟩ 1 1 [.int .u64 (y:Int)] rfl rfl (zaQ _ _ _) (zeg _ _) (by unfold maxLen;omega) om9 (by have:=d.size;simp;omega) ?_;intro v' w1 p o _);have E:Below w.heap.size w w1:=(d.alloc d.size _).grown o (by have:=d.size;simp;omega) (λg hg=>(f.lt g hg).1);have t:w1.ownsRow w.heap.size 161 1 v' (j+1) (zaw .u64 (L++[y])):=by
      rw [zbo];simpa [zaw] using p
     clear p o f d;go_wp2;go_roundg (n - j)
     case measure=>omega
     case rel=>exact⟨j+1,_,.inr om9,om9,by go_num,HS.out,t,E⟩
    ·obtain⟨q,rfl⟩:∃q,m=q+1:=⟨m - 1,om9⟩;have u:=zrr x (4*j+q) (4 - (q+1));rw [show 4 - (q+1)+1=4 - q from by omega] at u;have h:x / 65536^(4*j+(q+1))%65536^(4 - (q+1))*65536+x / 65536^(4*j+q)%65536=x / 65536^(4*j+q)%65536^(4 - q):=u;have D1:=DG.out (4*j+q);rw [zgk] at D1;have r:x / 65536^(4*j+(q+1))%65536^(4 - (q+1))<65536^3:=Nat.lt_of_lt_of_le (Nat.mod_lt _ (Nat.pow_pos de9)) (Nat.pow_le_pow_right de9 om9);have F:x / 65536^(4*j+q)%65536<65536:=Nat.mod_lt _ de9;obtain⟨a,ha⟩:∃a,x / 65536^(4*j+(q+1))%65536^(4 - (q+1))=a:=⟨_,rfl⟩;obtain⟨b,hb⟩:∃a,x / 65536^(4*j+q)%65536=a:=⟨_,rfl⟩;rw [ha] at h r⊢;rw [hb] at h F D1;have D:=lh9 h;rw [show((4*j+q:Nat):Int)=4*(j:Int)+(q:Int) from by omega] at D1;have C:=lh9 D1;have hb1':a<281474976710656:=by simpa using r
     clear u h ha hb D1 r HS;go_wp2_with fail;refine C.out.mono ?_;rintro e w' ⟨rfl,rfl⟩;go_wp2_with fail;go_roundg (q+1)
     case measure=>omega
     case rel=>exact⟨q,om9,om9,by go_num,by rw [<-D.out];go_num,rfl⟩
  ·have e:=l.done (by have:=z.out;omega) (by have:=z.out;omega);have HE:Hid (j=(dg 18446744073709551616 x).length):=by show _=_;rw [<-e,l.len]
   have HG:Hid (∀w' v,w'.ownsRow w.heap.size 161 1 v j (zaw .u64 L)->Below w.heap.size w w'->zfu w x (.returned v) w'):=by
    intro w' v ho hb;unfold zfu;rw [<-e,l.len];exact zfb ho hb
   clear e l;go_wp2;go_ret;exact HG.out _ _ f d
theorem ref2_is (x:Nat)(A D:oA9)(n c m d:Nat)(w:World)(hA:zal w x A n c)(hn:n<=1099511627776)(hD:zav w w.heap.size 1 D m (zaw .u64 (dg 18446744073709551616 x)))(hm:m<=1099511627776):
  Calls prog 149 #[.slice A n c,.slice D m d] w λe w'=>e=.returned (.bool true)/\Below w.heap.size w w':=by
 have W1:=zjw x A n c w hA hn;unfold zfu at W1;obtain⟨L,hL⟩:∃L,dg 18446744073709551616 x=L:=⟨_,rfl⟩;rw [hL] at W1 hD;have a:=hD.len_;rw [a] at W1;have HW:=lh9 W1;clear W1 a hL;go_enter func149,ntmps149;go_wp2_with fail;refine HW.out.mono ?_;rintro e w1 ⟨A1,c1,rfl,h,hc1,⟨_,_⟩,b⟩;have f:=hD.below b;go_wp2_with fail
 go_loopg [6] (m+1) (λg i wr=>∃(k q:Nat),k<=m/\m<g+k/\i=.int .i64 k/\wr=w1.drewN q)
 case atStart=>exact⟨0,0,Nat.zero_le _,om9,rfl,rfl⟩
 case round=>
  obtain⟨k,q,hk,hg,rfl,rfl⟩:=hrel;by_cases hlt:k<m
  ·obtain⟨ad,rfl,hadb,h1⟩:=zbF h (k:=k) hlt;obtain⟨ae,rfl,haeb,h2⟩:=zbF f (k:=k) hlt;obtain⟨p,hp⟩:∃p,L.getD k 0=p:=⟨_,rfl⟩;rw [hp] at h1 h2;clear hp;go_wp2
   go_quiet (fail)
   go_wp2;go_roundg (m - k)
   case measure=>omega
   case rel=>exact⟨k+1,_,om9,om9,by go_num,rfl⟩
  ·go_wp2;go_ret;exact⟨rfl,zbl b q⟩
theorem ref2_add (x y:Nat)(A D:oA9)(n m c d:Nat)(w:World)(hA:zal w x A n c)(hD:zal w y D m d)(hn:n<=549755813888)(hm:m<=549755813888):
  Calls prog 182 #[.slice A n c,.slice D m d] w (zbA w (x+y)):=by
 obtain⟨i0,R,S,U,V⟩:=info_parts ziZ;have B:=lh9 hA.len;have z:=lh9 hD.len;have hR:=hA.1;have hS:=hD.1;go_enter func182,ntmps182;go_wp2
 go_loopg [5,6,7,8] (n + m + 2) (fun g v s i _ wr => ∃ (k cc : Nat) (out : List Nat),k ≤ n + m + 1 ∧ n + m + 1 < g + k ∧ (k = 0 ∨ k ≤ n ∨ k ≤ m ∨ (k ≤ n + 1 ∨ k ≤ m + 1) ∧ cc = 0) ∧ i = .int .i64 k ∧ s = .int .i64 cc ∧ zgO x y k out cc ∧
   wr.ownsRow w.heap.size 3 1 v k (zaw .i64 out)/\Below w.heap.size w wr)
 case atStart=>exact⟨0,0,[],om9,om9,.inl rfl,rfl,rfl,zgO.start x y,World.ownsRow_nil _ _ _ _,Below.refl _ _⟩
 case round=>
  obtain⟨k,cc,out,hk,hg,E,rfl,rfl,l,j,f⟩:=hrel;have hcc:=l.carry;by_cases hgo:k<n\/k<m\/0<cc
  ·have D1:=zdd A n c k _ _ wr (hR.below f) om9;have D2:=zdd D m d k _ _ wr (hS.below f) om9;rw [zgk] at D1 D2;have J:x / 65536^k%65536<65536:=Nat.mod_lt _ de9;have L:y / 65536^k%65536<65536:=Nat.mod_lt _ de9;have r:=l.step rfl;have F:k=n/\k=m->cc=1:=om9;have P:n<=k->m<=k->cc=1:=om9;have HX:=lh9 (fun(h:n<=k) (h':m<=k)=>(show x / 65536^k%65536=0/\y / 65536^k%65536=0 from by
    refine⟨?_,?_⟩
    ·rw [Nat.div_eq_of_lt (Nat.lt_of_lt_of_le (zbh de9 x) (Nat.pow_le_pow_right de9 (by have:=B.out;omega)))]
    ·rw [Nat.div_eq_of_lt (Nat.lt_of_lt_of_le (zbh de9 y) (Nat.pow_le_pow_right de9 (by have:=z.out;omega)))]))
   obtain⟨a,ha⟩:∃a,x / 65536^k%65536=a:=⟨_,rfl⟩;obtain⟨b,hb⟩:∃a,y / 65536^k%65536=a:=⟨_,rfl⟩;rw [ha] at D1 J r HX;rw [hb] at D2 L r HX;have G:=lh9 D1;have H:=lh9 D2;have I:=lh9 r;have C:Hid (k+1<=n+m+1/\(k+1=0\/k+1<=n\/k+1<=m\/(k+1<=n+1\/k+1<=m+1)/\(a+b+cc) / 65536=0)):=by
    refine⟨om9,?_⟩;by_cases h1:k<n
    ·exact .inr (.inl om9)
    ·by_cases h2:k<m
     ·exact .inr (.inr (.inl om9))
     ·have:=HX.out om9 om9;exact .inr (.inr (.inr ⟨om9,om9⟩))
   clear D1 D2 r ha hb l HX F P E;go_wp2_with fail
   all_goals
    refine G.out.mono ?_
    rintro e w' ⟨rfl,rfl⟩
    go_wp2_with fail
    refine H.out.mono ?_
    rintro e w' ⟨rfl,rfl⟩
    go_wp2_with (at_builtin;refine wpList_append_own _ rfl _ _ 28 rfl w.heap.size 3 i0 (.int .i64 0) 1 8 underlying28 R S U V rfl de9 _ _ _ rfl (j.alloc _) ⟨wr.heap.size,0,none⟩ 1 1 [.int .i64 (((a:Int)+(b:Int)+(cc:Int))%65536)] rfl rfl (zaQ _ _ _) (zeg _ _) (by unfold maxLen;omega) om9 (by have:=f.size;simp;omega) ?_;intro v' w1 p o _)
    have K:Below w.heap.size w w1:=(f.alloc f.size _).grown o (by have:=f.size;simp;omega) (λg hg=>(j.lt g hg).1)
    have u:w1.ownsRow w.heap.size 3 1 v' (k+1) (zaw .i64 (out++[(a+b+cc)%65536])):=by
     rw [zbo];simpa [zaw] using p
    clear p o j f
    go_wp2
    go_roundg (n+m+1 - k)
    case measure=>omega
    case rel=>exact⟨k+1,_,_,C.out.1,om9,C.out.2,by go_num,by go_num,I.out,u,K⟩
  ·have N:cc=0:=om9;subst N;have e:=l.done (by have:=B.out;omega) (by have:=z.out;omega);have T:=zdC j l.dgs om9;rw [e] at T;have HT:=lh9 T;clear e T l j E;go_wp2_with fail;refine HT.out.mono ?_;intro e w2 t;have O:=t.from_ f;obtain⟨A2,n2,c2,rfl,Q,M⟩:=t.elim;clear t Q M;go_wp2_with fail;go_ret;exact O
theorem zgF (x mm a:Nat)(A:oA9)(n c:Nat)(w:World)(hA:zal w x A n c)(hn:n<=549755813888)(P:mm<65536)(ha:a<65536):
  Calls prog 184 #[.slice A n c,.int .i64 mm,.int .i64 a] w (zbA w (x*mm+a)):=by
 obtain⟨i0,B,C,D,E⟩:=info_parts ziZ;have F:=lh9 hA.len;have hR:=hA.1;go_enter func184,ntmps184;go_wp2
 go_loopg [7,8,9,10] (n + 1) (fun g v s i _ wr => ∃ (k cc : Nat) (out : List Nat),k ≤ n ∧ n < g + k ∧ i = .int .i64 k ∧ s = .int .i64 cc ∧ zdT x mm a k out cc ∧
   wr.ownsRow w.heap.size 3 1 v k (zaw .i64 out)/\Below w.heap.size w wr)
 case atStart=>exact⟨0,a,[],om9,om9,rfl,rfl,zdT.start x mm a ha,World.ownsRow_nil _ _ _ _,Below.refl _ _⟩
 case round=>
  obtain⟨k,cc,out,hk,hg,rfl,rfl,m,j,d⟩:=hrel;have hcc:=m.carry;by_cases hlt:k<n
  ·obtain⟨ad,rfl,y,z⟩:=zbF hR hlt;have p:wr.cell? (ad.add k)=some (.int .i64 ((dg 65536 x).getD k 0:Nat)):=(d.cell (by rw [zan];exact y)).trans z;rw [zgk] at p;have I:x / 65536^k%65536<65536:=Nat.mod_lt _ de9;have u:=m.step P rfl;obtain⟨b,hb⟩:∃b,x / 65536^k%65536=b:=⟨_,rfl⟩;rw [hb] at p I u;have N:b*mm<=65535*65535:=Nat.mul_le_mul om9 om9;have t:(b:Int)*(mm:Int)=((b*mm:Nat):Int):=(Int.natCast_mul b mm).symm;have G:=lh9 t;have O:(0:Int)<=(b:Int)*(mm:Int)/\(b:Int)*(mm:Int)<=4294836225:=by rw [t];omega
   obtain⟨hm30,hm31⟩:=O;have H:=lh9 u;clear u hb m z N t;go_wp2_with (at_builtin;refine wpList_append_own _ rfl _ _ 28 rfl w.heap.size 3 i0 (.int .i64 0) 1 8 underlying28 B C D E rfl de9 _ _ _ rfl (j.alloc _) ⟨wr.heap.size,0,none⟩ 1 1 [.int .i64 (((b:Int)*(mm:Int)+(cc:Int))%65536)] rfl rfl (zaQ _ _ _) (zeg _ _) (by unfold maxLen;omega) om9 (by have:=d.size;simp;omega) ?_;intro v' w1 h f _);have o:Below w.heap.size w w1:=(d.alloc d.size _).grown f (by have:=d.size;simp;omega) (λg hg=>(j.lt g hg).1);have l:w1.ownsRow w.heap.size 3 1 v' (k+1) (zaw .i64 (out++[(b*mm+cc)%65536])):=by
    rw [zbo];simpa [zaw] using h
   clear h f j d p;go_wp2;go_roundg (n - k)
   case measure=>omega
   case rel=>exact⟨k+1,_,_,om9,om9,by go_num,by rw [G.out];go_num,H.out,l,o⟩
  ·have M:k=n:=om9;subst M;have hd:=m.done (by have:=F.out;omega);have HD:=lh9 hd;clear hd m;go_wp2_with (first
    |(at_builtin;refine wpList_append_own _ rfl _ _ 28 rfl w.heap.size 3 i0 (.int .i64 0) 1 8 underlying28 B C D E rfl de9 _ _ _ rfl (j.alloc _) ⟨wr.heap.size,0,none⟩ 2 2 [.int .i64 ((cc:Int)%65536),.int .i64 ((cc:Int) / 65536)] rfl rfl (zni _ _ _ _) (zqI _ _ _) (by unfold maxLen;omega) om9 (by have:=d.size;simp;omega) ?_;intro v' w1 h f _)
    |fail)
   have o:Below w.heap.size w w1:=(d.alloc d.size _).grown f (by have:=d.size;simp;omega) (λg hg=>(j.lt g hg).1);have l:w1.ownsRow w.heap.size 3 1 v' (k+2) (zaw .i64 (out++[cc%65536,cc / 65536])):=by
    rw [zbo];simpa [zaw] using h
   have T:=zdC l HD.out.2 om9;rw [HD.out.1] at T;have HT:=lh9 T;clear T l h f j d;go_wp2_with fail;refine HT.out.mono ?_;intro e w2 r;have K:=r.from_ o;obtain⟨A2,n2,c2,rfl,L,J⟩:=r.elim;clear r L J;go_wp2_with fail;go_ret;exact K
theorem zfL (x y:Nat)(S:y<=x)(A D:oA9)(n m c d:Nat)(w:World)(hA:zal w x A n c)(hD:zal w y D m d)(hn:n<=549755813888)(hm:m<=549755813888):
  Calls prog 185 #[.slice A n c,.slice D m d] w (zbA w (x - y)):=by
 obtain⟨i0,H,I,J,K⟩:=info_parts ziZ;have L:=lh9 hA.len;have hR:=hA.1;have hS:=hD.1;go_enter func185,ntmps185;go_wp2
 go_loopg [5,6,7,8] (n + 1) (fun g v s i _ wr => ∃ (k cc : Nat) (out : List Nat),k ≤ n ∧ n < g + k ∧ i = .int .i64 k ∧ s = .int .i64 cc ∧ zgS x y k out cc ∧
   wr.ownsRow w.heap.size 3 1 v k (zaw .i64 out)/\Below w.heap.size w wr)
 case atStart=>exact⟨0,0,[],om9,om9,rfl,rfl,zgS.start x y,World.ownsRow_nil _ _ _ _,Below.refl _ _⟩
 case round=>
  obtain⟨k,cc,out,hk,hg,rfl,rfl,p,j,h⟩:=hrel;have hcc:=p.lack;by_cases hlt:k<n
  ·obtain⟨ad,rfl,F,G⟩:=zbF hR hlt;have t:wr.cell? (ad.add k)=some (.int .i64 ((dg 65536 x).getD k 0:Nat)):=(h.cell (by rw [zan];exact F)).trans G;rw [zgk] at t;have D2:=λq=>zdd D m d k _ _ (wr.drewN q) ((hS.below h).drewN q) om9;rw [zgk] at D2;have M:x / 65536^k%65536<65536:=Nat.mod_lt _ de9;have N:y / 65536^k%65536<65536:=Nat.mod_lt _ de9;have u:=fun(d c':Nat)=>p.step (d:=d) (c':=c');obtain⟨a,ha⟩:∃b,x / 65536^k%65536=b:=⟨_,rfl⟩;obtain⟨b,hb⟩:∃b,y / 65536^k%65536=b:=⟨_,rfl⟩;rw [ha] at t M u;rw [hb] at D2 N u;have E:=lh9 D2;have r:=lh9 u;clear D2 u ha hb p G;by_cases hneg:a<b+cc
   ·have HN:=lh9 (r.out (a+65536 - b - cc) 1 om9 om9 om9);have C:decide ((a:Int) - b - cc<0)=true:=by simp;omega
    clear r;go_wp2_with fail
    go_quiet ((go_at_call 187;exact zcJ (E.out _)))
    go_wp2_with (at_builtin;refine wpList_append_own _ rfl _ _ 28 rfl w.heap.size 3 i0 (.int .i64 0) 1 8 underlying28 H I J K rfl de9 _ _ _ rfl ((j.drewN_ nq).alloc _) ⟨(wr.drewN nq).heap.size,0,none⟩ 1 1 [.int .i64 ((a:Int) - b - cc+65536)] rfl rfl (zaQ _ _ _) (zeg _ _) (by unfold maxLen;omega) om9 (by have:=h.size;simp;omega) ?_;intro v' w1 f l _);have z:Below w.heap.size w w1:=((zbl h nq).alloc h.size _).grown l (by have:=h.size;simp;omega) (λg hg=>(j.lt g hg).1);have ed:(a:Int) - (b:Int) - (cc:Int)+65536=((a+65536 - b - cc:Nat):Int):=om9;rw [ed] at f;have o:w1.ownsRow w.heap.size 3 1 v' (k+1) (zaw .i64 (out++[a+65536 - b - cc])):=by
     rw [zbo];exact f
    clear f l j h t ed;go_wp2;go_roundg (n - k)
    case measure=>omega
    case rel=>exact⟨k+1,1,_,om9,om9,by go_num,rfl,HN.out,o,z⟩
   ·have HN:=lh9 (r.out (a - b - cc) 0 om9 om9 om9);have C:decide ((a:Int) - b - cc<0)=false:=by simp;omega
    clear r;go_wp2_with fail
    go_quiet ((go_at_call 187;exact zcJ (E.out _)))
    go_wp2_with (at_builtin;refine wpList_append_own _ rfl _ _ 28 rfl w.heap.size 3 i0 (.int .i64 0) 1 8 underlying28 H I J K rfl de9 _ _ _ rfl ((j.drewN_ nq).alloc _) ⟨(wr.drewN nq).heap.size,0,none⟩ 1 1 [.int .i64 ((a:Int) - b - cc)] rfl rfl (zaQ _ _ _) (zeg _ _) (by unfold maxLen;omega) om9 (by have:=h.size;simp;omega) ?_;intro v' w1 f l _);have z:Below w.heap.size w w1:=((zbl h nq).alloc h.size _).grown l (by have:=h.size;simp;omega) (λg hg=>(j.lt g hg).1);have ed:(a:Int) - (b:Int) - (cc:Int)=((a - b - cc:Nat):Int):=om9;rw [ed] at f;have o:w1.ownsRow w.heap.size 3 1 v' (k+1) (zaw .i64 (out++[a - b - cc])):=by
     rw [zbo];exact f
    clear f l j h t ed;go_wp2;go_roundg (n - k)
    case measure=>omega
    case rel=>exact⟨k+1,0,_,om9,om9,by go_num,rfl,HN.out,o,z⟩
  ·have R:k=n:=om9;subst R;have e:=p.done S (by have:=L.out;omega);have T:=zdC j p.dgs om9;rw [e] at T;have HT:=lh9 T;clear e T p j;go_wp2_with fail;refine HT.out.mono ?_;intro e w2 B;have P:=B.from_ h;obtain⟨A2,n2,c2,rfl,Q,O⟩:=B.elim;clear B Q O;go_wp2_with fail;go_ret;exact P
theorem znr (x k:Nat)(A:oA9)(n c:Nat)(w:World)(hA:zal w x A n c)(hn:n<=274877906944)(hk:k<=274877906944):
  Calls prog 183 #[.slice A n c,.int .i64 k] w (zbA w (x*2^k)):=by
 obtain⟨i0,B,E,F,G⟩:=info_parts ziZ;have H:=lh9 hA.len;have HA:=lh9 hA;clear hA;go_enter func183,ntmps183;go_wp2
 go_loopg [5,6] (k / 16+1) (λg v i wr=>∃(j:Nat),j<=k / 16/\k / 16<g+j/\i=.int .i64 j/\wr.ownsRow w.heap.size 3 1 v j (zaw .i64 (List.replicate j 0))/\Below w.heap.size w wr)
 case atStart=>exact⟨0,om9,om9,rfl,World.ownsRow_nil _ _ _ _,Below.refl _ _⟩
 case round=>
  obtain⟨j,hj,hg,rfl,l,h⟩:=hrel;by_cases hlt:j<k / 16
  ·go_wp2_with (at_builtin;refine wpList_append_own _ rfl _ _ 28 rfl w.heap.size 3 i0 (.int .i64 0) 1 8 underlying28 B E F G rfl de9 _ _ _ rfl (l.alloc _) ⟨wr.heap.size,0,none⟩ 1 1 [.int .i64 0] rfl rfl (zaQ _ _ _) (zeg _ _) (by unfold maxLen;omega) om9 (by have:=h.size;simp;omega) ?_;intro v' w1 a d _);have r:Below w.heap.size w w1:=(h.alloc h.size _).grown d (by have:=h.size;simp;omega) (λg hg=>(l.lt g hg).1);have f:w1.ownsRow w.heap.size 3 1 v' (j+1) (zaw .i64 (List.replicate (j+1) 0)):=by
    rw [List.replicate_succ',zbo];exact a
   clear a d l h;go_wp2;go_roundg (k / 16 - j)
   case measure=>omega
   case rel=>exact⟨j+1,om9,om9,by go_num,f,r⟩
  ·have M:j=k / 16:=om9;have P:=lh9 (zic k wr);have hp:=znh k;have S0:=zgF x (2^(k%16)) 0 A n c wr (HA.out.below h) om9 om9 de9;have o:=zkz k;obtain⟨p,D⟩:∃p,2^(k%16)=p:=⟨_,rfl⟩;rw [D] at P hp S0 o;rw [Nat.add_zero] at S0;have S:=lh9 S0;have HF:Hid (65536^j*(x*p)=x*2^k):=by
    show _=_;rw [M,<-o,<-Nat.mul_assoc,Nat.mul_comm _ x,Nat.mul_assoc]
   have C:=zbB (b:=65536) de9 (x*p) (n+1) (by
    have h1:=zbh (b:=65536) de9 x;rw [<-H.out] at h1;rw [Nat.pow_succ];exact Nat.mul_lt_mul_of_lt_of_le h1 om9 de9)
   clear o S0 D;go_wp2_with fail;refine P.out.mono ?_;rintro e w' ⟨rfl,rfl⟩;go_wp2_with fail;refine S.out.mono ?_;intro e w2 z;obtain⟨A2,n2,c2,rfl,u,s⟩:=z.elim;have hn2:n2<=n+1:=by rw [u.len];exact C
   have f:=zqD l s;have m:=h.trans (s.mono h.size);have y:=u.1;have hlen2:=y.len_;clear l u s h z;go_wp2_with (at_builtin;refine zgM _ rfl (.tmp 16) (.tmp 21) 28 56 rfl w.heap.size 3 3 i0 (.int .i64 0) 1 8 underlying28 under_N B E F G rfl de9 _ _ _ rfl f _ A2 n2 c2 (zaw .i64 (dg 65536 (x*p))) rfl y (zek _ _) (by unfold maxLen;omega) om9 m.size ?_;intro v' w1 a d I);have r:Below w.heap.size w w1:=m.grown d m.size (λg hg=>(f.lt g hg).1);rw [<-zbo] at a;have T:=zdC a ((Dgs.zeros de9 j).append (zcx de9 (x*p))) om9;rw [zbt,zeb,List.length_replicate,zde de9,Nat.zero_add,HF.out] at T;have HT:=lh9 T;clear T f a d m y I;go_wp2_with fail;refine HT.out.mono ?_;intro e w3 t;have K:=t.from_ r;obtain⟨A4,n4,c4,rfl,L,J⟩:=t.elim;clear t L J;go_wp2_with fail;go_ret;exact K
theorem znU {x n:Nat}(hx:(dg 65536 x).length=n+1):x / 65536^n%65536=x / 65536^n/\0<x / 65536^n/\x / 65536^n<65536/\bitLen x=16*n+bitLen (x / 65536^n):=by
 have a:x≠0:=by rintro rfl;simp [zdm] at hx
 have h1:=zbh (b:=65536) de9 x;have h2:=(zhT (b:=65536) de9 x a).2;rw [hx] at h1 h2;have h3:x / 65536^n<65536:=(Nat.div_lt_iff_lt_mul (Nat.pow_pos de9)).2 (by rw [Nat.mul_comm,<-Nat.pow_succ];exact h1);have h4:0<x / 65536^n:=Nat.div_pos (by simpa using h2) (Nat.pow_pos de9);refine⟨Nat.mod_eq_of_lt h3,h4,h3,?_⟩;have e:(65536:Nat)^n=2^(16*n):=by rw [show(65536:Nat)=2^16 from rfl,<-Nat.pow_mul]
 rw [e] at h4⊢;exact bitLen_shift x (16*n) om9
theorem znT (d j:Nat)(h0:d / 2^j=0)(h1:1<=j/\d / 2^(j - 1)≠0):bitLen d=j:=by
 obtain⟨i,rfl⟩:∃i,j=i+1:=⟨j - 1,om9⟩;rw [Nat.add_sub_cancel] at h1;refine zpY d i ?_ ?_
 ·rcases Nat.lt_or_ge d (2^i) with h|h
  ·exact absurd (Nat.div_eq_of_lt h) h1.2
  ·exact h
 ·rcases (Nat.div_eq_zero_iff).1 h0 with h|h
  ·have:=Nat.two_pow_pos (i+1);omega
  ·exact h
theorem zkG (x:Nat)(A:oA9)(n c:Nat)(w:World)(hA:zal w x A n c)(hn:n<=274877906944):
  Calls prog 92 #[.slice A n c] w λe w'=>e=.returned (.int .i64 (bitLen x:Nat))/\w=w':=by
 have a:=hA.len;have hR:=hA.1;by_cases h0:n=0
 ·subst h0;have hx:x=0:=by
   have:=zbh (b:=65536) de9 x;rw [<-a] at this;simpa using this
  subst hx;clear a;go_enter func92,ntmps92;go_wp2;go_ret;exact⟨rfl,rfl⟩
 ·obtain⟨m,rfl⟩:∃m,n=m+1:=⟨n - 1,om9⟩;obtain⟨t1,t2,t3,t4⟩:=znU (x:=x) (n:=m) a.symm;obtain⟨ad,rfl,hadb,hc⟩:=zbF hR (k:=m) om9;rw [zgk,t1] at hc;obtain⟨d,hd⟩:∃d,x / 65536^m=d:=⟨_,rfl⟩;rw [hd] at hc t2 t3 t4;have HT:=lh9 t4;have hz:(((m+1:Nat):Int)==0)=false:=beq_eq_false_iff_ne.2 om9;clear a t1 hd t4 hA;go_enter func92,ntmps92;go_wp2
  go_loopg [3,4] 18 (λg s i wr=>∃j:Nat,j<=16/\16<g+j/\s=.int .i64 (16*(m:Int)+j)/\i=.int .i64 ((d / 2^j:Nat):Int)/\Hid (j=0\/d / 2^(j - 1)≠0)/\wr=w)
  case atStart=>exact⟨0,om9,om9,by go_num,si9,.inl rfl,rfl⟩
  case round=>
   obtain⟨j,hj,hg,rfl,rfl,H,rfl⟩:=hrel;have HD:Hid (d / 2^(j+1)=d / 2^j / 2):=by show _=_;rw [Nat.pow_succ,<-Nat.div_div_eq_div_mul]
   by_cases hz2:d / 2^j=0
   ·have HB:Hid (bitLen x=16*m+j):=by
     show _=_;rw [HT.out,znT d j hz2 ?_];rcases H.out with h|h
     ·subst h;simp at hz2;omega
     ·refine⟨?_,h⟩;rcases Nat.eq_zero_or_pos j with h2|h2
      ·subst h2;simp at hz2;omega
      ·exact h2
    rw [hz2];clear hz2;go_wp2;go_ret;exact⟨zlQ (by rw [HB.out];go_num),rfl⟩
   ·have hj16:j<16:=by
     rcases Nat.lt_or_ge j 16 with h|h
     ·exact h
     ·have:j=16:=om9;subst this;exact absurd (Nat.div_eq_of_lt (by simpa using t3)) hz2
    have HN:Hid (j+1=0\/d / 2^(j+1 - 1)≠0):=.inr (by simpa using hz2);have f:d / 2^j<65536:=Nat.lt_of_le_of_lt (Nat.div_le_self _ _) t3;obtain⟨y,hy⟩:∃y,d / 2^j=y:=⟨_,rfl⟩;rw [hy] at hz2 HD f⊢;have hy0:0<y:=om9;clear hy hz2;go_wp2;go_roundg (16 - j)
    case measure=>omega
    case rel=>exact⟨j+1,om9,om9,by go_num,by rw [HD.out];go_num,HN,rfl⟩
theorem bit_two (x k:Nat):x / 65536^(k / 16)%65536 / 2^(k%16)%2=x / 2^k%2:=by
 have h1:x / 2^k=x / 65536^(k / 16) / 2^(k%16):=(shr_two x k).symm;rw [h1];generalize x / 65536^(k / 16)=y;obtain⟨j,hj⟩:∃j,k%16+(j+1)=16:=⟨15 - k%16,om9⟩;have e:(65536:Nat)=2^(k%16)*2^(j+1):=by rw [<-Nat.pow_add,hj]
 have h2:y%65536 / 2^(k%16)=y / 2^(k%16)%2^(j+1):=by rw [e,Nat.mod_mul_right_div_self]
 rw [h2,Nat.pow_succ,Nat.mod_mul_left_mod]
theorem ref2_bit (x k:Nat)(A:oA9)(n c:Nat)(w:World)(hA:zal w x A n c)(hn:n<=274877906944)(hk:k<=9223372036854775807):
  Calls prog 204 #[.slice A n c,.int .i64 k] w λe w'=>e=.returned (.int .i64 (x / 2^k%2:Nat))/\w=w':=by
 have D1:=zdd A n c (k / 16) _ _ w hA.1 om9;rw [zgk,show((k / 16:Nat):Int)=(k:Int) / 16 from by omega] at D1;have P:=zic k w;have hp:=znh k;have i:0<2^(k%16):=Nat.two_pow_pos _;have hb:=bit_two x k;have ha:x / 65536^(k / 16)%65536<65536:=Nat.mod_lt _ de9;obtain⟨a,f⟩:∃a,x / 65536^(k / 16)%65536=a:=⟨_,rfl⟩;obtain⟨p,h⟩:∃p,2^(k%16)=p:=⟨_,rfl⟩;rw [f] at D1 hb ha;rw [h] at P hp i hb;obtain⟨b,g⟩:∃b,x / 2^k%2=b:=⟨_,rfl⟩;rw [g] at hb⊢;have HD:=lh9 D1;have HP:=lh9 P;have HB:=lh9 hb;have hpn:¬ p=0:=om9;have hq:a / p<=a:=Nat.div_le_self _ _;have d:(a:Int) / (p:Int)=((a / p:Nat):Int):=(Int.natCast_ediv a p).symm;have HQ:=lh9 d;have hq0:0<=(a:Int) / (p:Int):=by rw [d];exact Int.natCast_nonneg _
 have hq1:(a:Int) / (p:Int)<=65535:=by
  have h1:a / p<=65535:=Nat.le_trans hq om9;rw [d];exact(Int.ofNat_le.2 h1:((a / p:Nat):Int)<=((65535:Nat):Int))
 clear D1 P hb f h g hA d;go_enter func204,ntmps204;go_wp2_with fail;refine HD.out.mono ?_;rintro e w' ⟨rfl,rfl⟩;go_wp2_with fail;refine HP.out.mono ?_;rintro e w' ⟨rfl,rfl⟩;go_wp2;go_ret;refine⟨zlQ ?_,rfl⟩;show(a:Int) / (p:Int)%2=(b:Int);rw [HQ.out,<-HB.out];exact(Int.natCast_emod _ _).symm
