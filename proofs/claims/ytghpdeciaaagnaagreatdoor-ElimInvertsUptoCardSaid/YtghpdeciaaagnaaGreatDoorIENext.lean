/- What this claim leans on. -/
import Derived.Test.YtghpdeciaaagnaaGreatDoorIVOne
namespace Go.Proofs.YtghpdeciaaagnaaGreatDoor
open Go Go.RowKit
set_option maxHeartbeats 16000000
set_option maxRecDepth 100000
set_option linter.unusedVariables false
set_option linter.unusedSimpArgs false
section
variable {w w':World}{g:Nat}{st:ESt}{rd:Rat}{A:oA9}{n cA:Nat}{B:oA9}{k cB:Nat}{x0 x1 x2 y0 y1 y2:Value}
def ziU (w:World)(g n:Nat)(e:ESt)(rd:Rat)(eo:Ending)(w':World):Prop:=eo=.returned (.tuple #[])/\(∃A cA B k cB z0 z1 z2 u0 u1 u2,ElS w' g e rd A n cA B k cB z0 z1 z2 u0 u1 u2)/\Below g w w'
theorem ElS.cap (h:ElS w g st rd A n cA B k cB x0 x1 x2 y0 y1 y2):n<=cA/\cA<=9223372036854775807/\zaB (VZ g) w A n st.S/\k<=cB/\cB<=9223372036854775807/\(∀ad,A=some ad->g<=ad.block):=by
 obtain⟨vs,hr⟩:=h.rows
 obtain⟨A',c',hA,h1,h2,h3,h4⟩:=hr.shape h.hn
 injection hA with q1 q2 q3
 subst q1 q3
 obtain⟨B',d',hB,h5,h6,_⟩:=h.lds.shape
 injection hB with q1 q2 q3
 subst q1 q3
 exact⟨h1,h2,h3,by rw [<-h.hk];exact h5,h6,h4⟩
theorem ElS.row {q m:Nat}(h:ElS w g st rd (some ⟨q,0,none⟩) n cA B k cB x0 x1 x2 y0 y1 y2){i:Nat}(hi:i<n)(hm:(st.S.getD i []).length=m):∃C d,w.cell? ⟨q,i,none⟩=some (.slice C m d)/\VZ g w C m d (st.S.getD i []):=by
 obtain⟨-,-,hL,-⟩:=h.cap
 obtain⟨ad,C,d,e,-,h1,h2⟩:=hL.get (zcB g) (Below.refl _ _) hi hm
 injection e with e
 subst e
 rw [zaP] at h1
 exact⟨C,d,h1,h2⟩
theorem ElS.ready {q:Nat}(h:ElS w g st rd (some ⟨q,0,none⟩) n cA B k cB x0 x1 x2 y0 y1 y2){i:Nat}(hi:i<n):∃a:Value,w.cell? ⟨q,i,none⟩=some a/\w.frozen? ⟨q,i,none⟩=false:=by
 obtain⟨vs,hr⟩:=h.rows
 obtain⟨g',cur,e1,_,e3,e4,_,hk,e6,_⟩:=hr.at_ (n:=0) (by rw [h.hn];omega)
 injection e1 with e1
 injection e1 with e1
 subst e1
 have e0:i<cur.size:=by omega
 exact⟨_,(hk.cell _).trans (Array.getElem?_eq_getElem e0),hk.frozen _⟩
theorem ElS.grownB (h:ElS w g st rd A n cA B k cB x0 x1 x2 y0 y1 y2)(hg:w.grownBy w' (Value.slice B k cB).ownBlock):Blk w' g 105 #[.slice A n cA,.slice B k cB,x0,x1,x2,y0,y1,y2]/\(∃vs,zbv (VZ g) w' g 61 (.slice A n cA) st.S vs)/\RV w' st.p x0 x1 x2/\RV w' rd y0 y1 y2:=by
 obtain⟨vs,hr⟩:=h.rows
 cases hv:(Value.slice B k cB).ownBlock with
 |none=>
   rw [hv] at hg
   have hb:=zbw hg
   have:=h.below hb
   exact⟨this.blk,this.rows,this.lead,this.rsd⟩
 |some q=>
   rw [hv] at hg
   obtain⟨hqg,cs,hk,hs⟩:=h.neB hv
   have ho:=zbl.of_grown hg
   refine⟨(hg.block g h.blk.lt (λe=>hqg (by injection e with e;exact e.symm))).trans h.blk,⟨vs,hr.off (λq2 s ds hq2 hk2=>?_) (λhx=>vz_offK hx hk (zoo hs) (zlJ hs) ho)⟩,h.lead.off hk (zlJ hs) ho,h.rsd.off hk (zlJ hs) ho⟩
   obtain⟨_,ds',h1,_⟩:=h.neA hq2
   exact(hg.block q2 hk2.lt (λe=>by injection e with e;subst e;exact absurd (zdc h1 hk) (by decide))).trans hk2
theorem ElS.growLd {w':World}{c:Nat}{v':Value}(h:ElS w g st rd A n cA B k cB x0 x1 x2 y0 y1 y2)(hg:w.grownBy w' (Value.slice B k cB).ownBlock)(ho:w'.ownsRow g 3 1 v' (k+1) (ldV st.ld++[.int .i64 (c:Int)]))(hp:zfx zgZ w' v'):∃B' cB',v'=.slice B' (k+1) cB'/\ElS (w'.setCell ⟨g,1,none⟩ v') g {st with ld:=st.ld++[c]} rd A n cA B' (k+1) cB' x0 x1 x2 y0 y1 y2:=by
 obtain⟨h1,⟨vs,h2⟩,h3,h4⟩:=h.grownB hg
 have hl:zgq w' g v' (st.ld++[c]):=⟨by
  have:ldV (st.ld++[c])=ldV st.ld++[.int .i64 (c:Int)]:=by unfold ldV;rw [List.map_append];rfl
  rw [this,List.length_append,h.hk];exact ho,hp⟩
 obtain⟨B',cB',e,-⟩:=hl.shape
 rw [List.length_append,h.hk] at e
 have e:v'=.slice B' (k+1) cB':=e
 subst e
 refine⟨B',cB',rfl,?_⟩
 have hne:∀q,(Value.slice B' (k+1) cB').ownBlock=some q->q≠g:=λq hq=>by
  rcases ho.2 with⟨h5,_⟩|⟨g',cap,cur,e1,e2,e3,_⟩
  ·rw [h5] at hq;cases hq
  ·rw [e1] at hq
   simp [Value.ownBlock] at hq
   subst hq
   intro e
   exact absurd (zdc e3 (e▸h1)) (by decide)
 have hneA:∀q,(Value.slice A n cA).ownBlock=some q->q≠g:=λq hq=>(h.neA hq).1
 have hnok:=h.nok
 have hof:zbl g w' (w'.setCell ⟨g,1,none⟩ (.slice B' (k+1) cB')):=zbl.of_far ((zbj.refl g w').set_ 1 _)
 exact {
  blk:=h1.set_ 1 _
  hn:=h.hn
  hk:=by rw [List.length_append,h.hk];rfl
  rows:=⟨vs,h2.off (λq s cs hq hk=>Blk.far (p:=⟨g,1,none⟩) hk (hneA q hq) _) (λhx=>zmn hx h1 hnok hof)⟩
  lds:=hl.off λq s cs hq hk=>Blk.far (p:=⟨g,1,none⟩) hk (hne q hq) _
  lead:=h3.off h1 hnok hof
  rsd:=h4.off h1 hnok hof}
theorem ElS.newLead {p:Rat}{z0 z1 z2:Value}(h:ElS w g st rd A n cA B k cB x0 x1 x2 y0 y1 y2)(hp:RV w p z0 z1 z2):ElS (((w.setCell ⟨g,2,none⟩ z0).setCell ⟨g,3,none⟩ z1).setCell ⟨g,4,none⟩ z2) g {st with p:=p} rd A n cA B k cB z0 z1 z2 y0 y1 y2:=
 h.store ((((zbj.refl g w).set_ 2 z0).set_ 3 z1).set_ 4 z2) (((h.blk.set_ 2 z0).set_ 3 z1).set_ 4 z2) hp h.rsd λq s cs hq hk=>Blk.far (p:=⟨g,4,none⟩) (Blk.far (p:=⟨g,3,none⟩) (Blk.far (p:=⟨g,2,none⟩) hk hq z0) hq z1) hq z2
theorem VZ.vec {z:Nat}{w:World}{A:oA9}{n c:Nat}{xs:List Rat}(h:VZ z w A n c xs):zaz w A n c xs:=h.1
theorem zfI:((-1:Int):Rat)= -1:=by decide+kernel
theorem zep:SzQ 1 (-1:Rat):=⟨by decide,by decide⟩
theorem ElS.lt (h:ElS w g st rd A n cA B k cB x0 x1 x2 y0 y1 y2):g<w.heap.size:=h.blk.lt
theorem zlG {K m c:Nat}{a0:Nat->Nat->Rat}(hT:zai w)(hE:ElS w g st rd A n cA B k cB x0 x1 x2 y0 y1 y2)(hok:EOk n m c a0 st)(ha:∀i,i<n->∀j,j<m->LI K (a0 i j))(hc:c<m)(hn:n<=64)(hb:¬zbn c st<st.S.length - st.ld.length)(hK:260*K+269<=33554432:=by omega):
  Calls Tryz.prog 133 #[.pointer (some ⟨g,0,none⟩),.int .i64 (c:Int)] w (ziU w g n (zfJ c st) rd):=by
 rw [next_no hb]
 have hz:=EOk.msz hok.dims hok.inv hn ha
 have hidx:ziy c (st.S.drop st.ld.length)= -1:=by rw [zkN,if_neg hb]
 rw [hE.hk] at hidx
 have hkn:k<=n:=by rw [<-hE.hk];obtain⟨_,_,_,hi⟩:=hok;exact hi.len
 obtain⟨hnc,hcm,hL,-⟩:=hE.cap
 have HE:=lh9 (λw' (hb:Below w.heap.size w w')=>hE.below hb)
 have HG:=lh9 hE.lt
 obtain⟨bx1,bx2,-⟩:=zav w 3 #[.int .i64 (c:Int)]
 obtain⟨p0,p1,-⟩:=(HE.out _ bx1).cells
 have HIX:∀X q,zaB (VZ g) (w.alloc (.cells #[.int .i64 (c:Int)] 3)) X (n - k) (st.S.drop k)->Hid (Calls Tryz.prog 167 #[.slice X (n - k) q,.func (.func 180) #[] #[.pointer (some ⟨w.heap.size,0,none⟩)]] (w.alloc (.cells #[.int .i64 (c:Int)] 3)) (λe w'=>e=.returned (.int .i64 (-1))/\Below (w.alloc (.cells #[.int .i64 (c:Int)] 3)).heap.size (w.alloc (.cells #[.int .i64 (c:Int)] 3)) w')):=λX q hX=>by
  have:=zjr (q:=q) (hT.on bx1) hX bx2 hc (λL hL=>hok.dims.cols L (List.mem_of_mem_drop hL)) (λL hL=>hz L (List.mem_of_mem_drop hL)) (by omega) (by omega)
  rw [hidx] at this
  exact this
 have HB:=lh9 bx1
 have i1:(0:Int)<=(k:Int):=by omega
 have i2:(k:Int)<=(n:Int):=by omega
 have i3:(n:Int)<=(cA:Int):=by omega
 have i4:(k:Int)<=(cA:Int):=by omega
 unfold ziU
 by_cases hck:cA=k
 ·have hnk:n - k=0:=by omega
  have hD:st.S.drop k=[]:=List.drop_eq_nil_of_le (by rw [hE.hn];omega)
  have HI:=HIX A 0 (by rw [hnk,hD];exact zaB.nil _ _)
  rw [hnk] at HI
  clear HIX hT hE hok ha hz hidx hL bx1 bx2 hb hD
  subst hck
  go_enter Tryz.func133,Tryz.ntmps133
  go_wp2_with fail
  (with_reducible refine HI.out.mono ?_)
  rintro eo w1 ⟨rfl,hb⟩
  have HB2:=lh9 (zab HB.out hb)
  clear hb p0 p1 HI
  go_wp2
  refine bodyPost_ret (v:=.tuple #[]) (by simp [results,Tryz.results133,go_sem]) rfl ?_
  exact⟨rfl,⟨_,_,_,_,_,_,_,_,_,_,_,HE.out _ HB2.out⟩,HB2.out.mono (Nat.le_of_lt HG.out)⟩
 ·have HI:=HIX (Option.map (λx=>x.add k) A) (cA - k) ((hL.below (zcB g) bx1).drop_ hkn)
  clear HIX hT hE hok ha hz hidx hL bx1 bx2 hb
  go_enter Tryz.func133,Tryz.ntmps133
  go_wp2_with fail
  (with_reducible refine HI.out.mono ?_)
  rintro eo w1 ⟨rfl,hb⟩
  have HB2:=lh9 (zab HB.out hb)
  clear hb p0 p1 HI
  go_wp2
  refine bodyPost_ret (v:=.tuple #[]) (by simp [results,Tryz.results133,go_sem]) rfl ?_
  exact⟨rfl,⟨_,_,_,_,_,_,_,_,_,_,_,HE.out _ HB2.out⟩,HB2.out.mono (Nat.le_of_lt HG.out)⟩
theorem zkr {K m c:Nat}{a0:Nat->Nat->Rat}(hT:zai w)(hE:ElS w g st rd A n cA B k cB x0 x1 x2 y0 y1 y2)(hok:EOk n m c a0 st)(ha:∀i,i<n->∀j,j<m->LI K (a0 i j))(hc:c<m)(hn:n<=64)(hm:m<=128)(hgt:0<g)(hb:zbn c st<st.S.length - st.ld.length)(hK:260*K+269<=33554432:=by omega):
  Calls Tryz.prog 133 #[.pointer (some ⟨g,0,none⟩),.int .i64 (c:Int)] w (ziU w g n (zfJ c st) rd):=by
 rw [next_yes hb]
 have hz:=EOk.msz hok.dims hok.inv hn ha
 obtain⟨zp,hp⟩:=EOk.psz hok.inv hn ha
 obtain⟨hd1,hinv1,hne1⟩:=hok.pick (by rw [<-hok.dims.rows];exact hb)
 have hz1:=EOk.msz hd1 hinv1 hn ha
 have hidx:ziy c (st.S.drop st.ld.length)=((zbn c st:Nat):Int):=by rw [zkN,if_pos hb]
 have hd:=hok.dims
 have hSn:=hE.hn
 have hkk:=hE.hk
 rw [hSn] at hb
 rw [hkk] at hidx hb
 have hpk:zfL c st=if zbn c st=0 then st.S else swpL k (k+zbn c st) st.S:=by unfold zfL;rw [hkk]
 rw [hkk]
 obtain⟨hnc,hcm,hL,hkB,hBm,hgA⟩:=hE.cap
 obtain⟨Ks,hKs⟩:∃q,67+65*K=q:=⟨_,rfl⟩
 rw [hKs] at hz hz1 zp
 have hKs4:4*Ks+1<=33554432:=by omega
 have HE:=lh9 (λw' (hb:Below w.heap.size w w')=>hE.below hb)
 have HT:=lh9 (λw' (hb:Below w.heap.size w w')=>hT.on hb)
 have HG:=lh9 hE.lt
 obtain⟨bx1,bx2,-⟩:=zav w 3 #[.int .i64 (c:Int)]
 obtain⟨p0,p1,-⟩:=(HE.out _ bx1).cells
 have HI:=lh9 (zjr (q:=cA - k) (hT.on bx1) ((hL.below (zcB g) bx1).drop_ (r:=k) (by omega)) bx2 hc (λL hL=>hd.cols L (List.mem_of_mem_drop hL)) (λL hL=>hz L (List.mem_of_mem_drop hL)) (by omega) (by omega))
 rw [hidx] at HI
 obtain⟨b,hbb⟩:∃b,zbn c st=b:=⟨_,rfl⟩
 rw [hbb] at HI hpk hb
 have HB:=lh9 bx1
 have HKC:=lh9 bx2
 have i1:(0:Int)<=(k:Int):=by omega
 have i2:(k:Int)<=(n:Int):=by omega
 have i3:(n:Int)<=(cA:Int):=by omega
 have i4:(k:Int)<=(cA:Int):=by omega
 have hck:¬cA=k:=by omega
 have d1:decide ((b:Int)<0)=false:=decide_eq_false (by omega)
 have hlb:k+b<n:=by omega
 have hkn:k<n:=by omega
 -- where the rows lie
 obtain⟨gA,hgA2⟩:∃gA,A=some ⟨gA,0,none⟩:=by
  obtain⟨vs,hr⟩:=hE.rows
  obtain⟨gA,cur,e1,_⟩:=hr.at_ (n:=0) (by omega)
  exact⟨gA,e1⟩
 subst hgA2
 rw [show Option.map (λx:Addr=>x.add k) (some ⟨gA,0,none⟩)=some ⟨gA,k,none⟩ from congrArg some (zaP gA k)] at HI
 have hgg:g<=gA:=hgA _ rfl
 have HNE:Hid (gA≠g):=(hE.neA (q:=gA) rfl).1
 have hkcA:gA<w.heap.size:=by obtain⟨-,cs,hk,-⟩:=hE.neA (q:=gA) rfl;exact hk.lt
 have HOB:Hid (∀q,(Value.slice B k cB).ownBlock=some q->q<w.heap.size/\g<=q):=λq hq=>by
  obtain⟨-,cs,hk,-⟩:=hE.neB hq
  obtain⟨B',d',hB,-,-,h6,-⟩:=hE.lds.shape
  refine⟨hk.lt,?_⟩
  rw [hB] at hq
  cases hB':B' with
  |none=>rw [hB'] at hq;simp [Value.ownBlock] at hq
  |some ad=>
    rw [hB'] at hq
    simp [Value.ownBlock] at hq
    have:=h6 ad hB'
    omega
 have HZ:=lh9 hz
 have HZ1:=lh9 hz1
 have HZP:=lh9 zp
 have HNP:=lh9 hp
 have HD:=lh9 hd
 have HD1:=lh9 hd1
 have HN1:=lh9 hne1
 have HPK:=lh9 hpk
 obtain⟨S1,hS1⟩:∃S1,zfL c st=S1:=⟨_,rfl⟩
 rw [hkk] at HN1
 rw [hS1] at HD1 HZ1 HN1 HPK⊢
 have HLN:Hid (st.S.length=n):=hSn
 have HLK:Hid (st.ld.length=k):=hkk
 unfold ziU
 clear hT hE hok ha hz hz1 hidx hL bx1 bx2 hd hd1 hinv1 hne1 hpk hS1 hKs zp hp hgA hSn hkk hbb
 go_enter Tryz.func133,Tryz.ntmps133
 go_wp2_with fail
 generalize w.alloc (.cells #[.int .i64 (c:Int)] 3)=W1 at*
 (with_reducible refine HI.out.mono ?_)
 rintro eo w1 ⟨rfl,hb⟩
 have HKC:=lh9 (zaa hb HKC.out)
 have HB:=lh9 (zab HB.out hb)
 clear hb p0 p1 HI
 go_upto_if 23 with fail
 have HE1:=lh9 (HE.out _ HB.out)
 go_cut [24,25,26,27,28,29,30,31,32,33,34,35,36,37,38,39,40,41,42,43,44,45,46,47,48,49,50,51,52,53,54,55] (λs24 s25 s26 s27 s28 s29 s30 s31 s32 s33 s34 s35 s36 s37 s38 s39 s40 s41 s42 s43 s44 s45 s46 s47 s48 s49 s50 s51 s52 s53 s54 s55 wx=>ElS wx g ⟨S1,st.ld,st.p⟩ rd (some ⟨gA,0,none⟩) n cA B k cB x0 x1 x2 y0 y1 y2/\Blk wx w.heap.size 3 #[.int .i64 (c:Int)]/\Below g w wx)
 case first=>
  by_cases hb0:b=0
  ·have d2:decide ((0:Int)<(b:Int))=false:=decide_eq_false (by omega)
   have hS:S1=st.S:=by rw [HPK.out,if_pos hb0]
   go_wp2
   go_meet
   exact⟨by rw [hS];exact HE1.out,HKC.out,HB.out.mono (Nat.le_of_lt HG.out)⟩
  ·have d2:decide ((0:Int)<(b:Int))=true:=decide_eq_true (by omega)
   have hS:S1=swpL k (k+b) st.S:=by rw [HPK.out,if_neg hb0]
   have HS:=lh9 hS
   clear hS
   clear HE
   obtain⟨kb,hkb⟩:∃q,k+b=q:=⟨_,rfl⟩
   have j1:IntKind.i64.wrap ((k:Int)+(b:Int))=((kb:Nat):Int):=by rw [IntWalk.i64_in _ (by omega)];omega
   have i5:(0:Int)<=(kb:Int):=by omega
   have i6:(kb:Int)<(n:Int):=by omega
   have i7:(k:Int)<(n:Int):=by omega
   rw [hkb] at HS
   have hkbn:kb<n:=by omega
   have hkne:k≠kb:=by omega
   have HR1:Hid (∃C d,∀w',Below w1.heap.size w1 w'->w'.cell? ⟨gA,k,none⟩=some (.slice C m d)/\VZ g w' C m d (st.S.getD k [])):=by
    obtain⟨C,d,h1,h2⟩:=HE1.out.row hkn (HD.out.row hkn)
    exact⟨C,d,λw' hb=>⟨zac hb h1,(zcB g).below h2 hb⟩⟩
   have HR2:Hid (∃C d,∀w',Below w1.heap.size w1 w'->w'.cell? ⟨gA,kb,none⟩=some (.slice C m d)/\VZ g w' C m d (st.S.getD kb [])):=by
    obtain⟨C,d,h1,h2⟩:=HE1.out.row hkbn (HD.out.row hkbn)
    exact⟨C,d,λw' hb=>⟨zac hb h1,(zcB g).below h2 hb⟩⟩
   obtain⟨C1,e1,HR1⟩:=HR1.out
   obtain⟨C2,e2,HR2⟩:=HR2.out
   have HR1:=lh9 HR1
   have HR2:=lh9 HR2
   have HLE1:Hid ((st.S.getD k []).length=m/\(st.S.getD kb []).length=m):=⟨HD.out.row hkn,HD.out.row hkbn⟩
   have HZK:Hid (zau Ks (st.S.getD k [])):=HZ.out.row (by rw [HLN.out];exact hkn)
   have HT1:=lh9 (λw' (h:Below w1.heap.size w1 w')=>HT.out w' (zab HB.out h))
   clear HD HZ HT HPK HD1 HZ1 HN1 HZP HNP hkb d1 d2 hb hck
   go_upto_region 5 with fail
   obtain⟨p0,-⟩:=HE1.out.cells
   have HBx:=lh9 ((Below.refl w1.heap.size w1).drew)
   refine rg (csc p0 csn) (λhHeld=>?_)
   clear p0
   generalize w1.drew=D at*
   refine tk 0 ?_
   refine tk 1 ?_
   refine tk 2 ?_
   refine tk 3 ?_
   refine tk 4 ?_
   refine tk 5 ?_
   refine tk 6 ?_
   refine tk 7 ?_
   refine tk 8 ?_
   refine tk 9 ?_
   refine tk 10 ?_
   refine tk 11 ?_
   refine tk 12 ?_
   refine tk 13 ?_
   refine tk 14 ?_
   refine tk 15 ?_
   refine tk 16 ?_
   refine tk 17 ?_
   refine tk 18 ?_
   refine tk 19 ?_
   refine tk 22 ?_
   refine tk 23 ?_
   refine tk 24 ?_
   refine tk 25 ?_
   refine tk 26 ?_
   refine tk 27 ?_
   refine rc3 20 21 28 (λKK hK9=>?_) (λKK hK9=>?_) (λKK hK9=>?_)
   ·have hc9:=(HR2.out _ HBx.out).1
    go_simp
    refine hK9.out _ _ hHeld (λhHeld=>?_)
    clear hK9 KK hc9
    refine rcb 21 28 (λKK hK9=>?_) (λKK hK9=>?_)
    ·go_simp
     (with_reducible refine(zcR (-1) _ (HT1.out _ HBx.out) (by decide) (by decide)).mono ?_)
     rintro eo w5 ⟨b9,A9,n9,c9,E9,k9,f9,rfl,hw9,hb⟩
     refine hK9.out _ _ (Cs.below hHeld hb) (λhHeld=>?_)
     rw [zfI] at hw9
     have HBx:=lh9 (zab HBx.out hb)
     have HM:=lh9 hw9
     clear hK9 KK hb hw9
     refine rc 28 (λKK hK9=>?_)
     have hc9:=(HR1.out _ HBx.out).1
     go_simp
     refine hK9.out _ _ hHeld (λhHeld=>?_)
     clear hK9 KK hc9
     refine rc 29 (λKK hK9=>?_)
     go_simp
     (with_reducible refine(zbK (HT1.out _ HBx.out) HM.out (VZ.vec (HR1.out _ HBx.out).2) zep HZK.out).mono ?_)
     rintro eo w6 ⟨g7,rfl,hg7,ho7,hb⟩
     refine hK9.out _ _ (Cs.below hHeld hb) (λhHeld=>?_)
     have HV7:Hid (VZ g w6 (some ⟨g7,0,none⟩) m m (zaS (-1) (st.S.getD k []))):=⟨zaJ ho7,λad e=>by injection e with e;subst e;have:=HBx.out.size;have:=HE1.out.lt;show g<g7;omega⟩
     have HBx:=lh9 (zab HBx.out hb)
     clear hK9 KK hb ho7 hg7 HM
     refine tk 30 ?_
     refine rc 31 (λKK hK9=>?_)
     have hes:=HE1.out.below HBx.out
     obtain⟨q9,sc0,sf0⟩:=hes.ready hkn
     obtain⟨-,cs9,hk9,hs9⟩:=hes.neA (q:=gA) rfl
     have HES:=lh9 (hes.setRow hkn (HR2.out _ HBx.out).2 HLE1.out.2)
     have HV7:Hid (VZ g _ (some ⟨g7,0,none⟩) m m (zaS (-1) (st.S.getD k []))):=(zcB g).offS HV7.out hk9 hs9 (zbl.of_far ((zbj.refl gA _).set_ k (.slice C2 m e2)))
     have HBG:=lh9 (((HB.out.trans (HBx.out.mono HB.out.size)).mono (Nat.le_of_lt HG.out)).setCell (p:=⟨gA,k,none⟩) (show g<=gA from hgg) (.slice C2 m e2))
     have HKX:=lh9 (Blk.far (p:=⟨gA,k,none⟩) (zaa HBx.out HKC.out) (by show w.heap.size≠gA;have:=hkcA;omega) (.slice C2 m e2))
     clear hes hk9 hs9
     go_simp
     refine hK9.out _ _ (Cs.far hHeld ((zbj.refl gA _).set_ k (.slice C2 m e2)) ⟨(by show g≠gA;exact Ne.symm HNE.out),trivial⟩) (λhHeld=>?_)
     clear hK9 KK sc0 sf0
     refine tk 32 ?_
     refine rc 33 (λKK hK9=>?_)
     obtain⟨q9,sc0,sf0⟩:=HES.out.ready hkbn
     have HES2:=lh9 (HES.out.setRow hkbn HV7.out (by rw [zbz HLE1.out.1]))
     have HBG2:=lh9 (HBG.out.setCell (p:=⟨gA,kb,none⟩) (show g<=gA from hgg) (.slice (some ⟨g7,0,none⟩) m m))
     have HKX2:=lh9 (Blk.far (p:=⟨gA,kb,none⟩) HKX.out (by show w.heap.size≠gA;have:=hkcA;omega) (.slice (some ⟨g7,0,none⟩) m m))
     go_simp
     refine hK9.out _ _ (Cs.far hHeld ((zbj.refl gA _).set_ kb (.slice (some ⟨g7,0,none⟩) m m)) ⟨(by show g≠gA;exact Ne.symm HNE.out),trivial⟩) (λhHeld=>?_)
     clear hK9 KK sc0 sf0
     refine rdn ?_
     clear hHeld
     go_wp2
     go_meet
     exact⟨by rw [HS.out];exact HES2.out,HKX2.out,HBG2.out⟩
    ·have hc9:=(HR1.out _ HBx.out).1
     go_simp
     refine hK9.out _ _ hHeld (λhHeld=>?_)
     clear hK9 KK hc9
     refine rc 21 (λKK hK9=>?_)
     go_simp
     (with_reducible refine(zcR (-1) _ (HT1.out _ HBx.out) (by decide) (by decide)).mono ?_)
     rintro eo w5 ⟨b9,A9,n9,c9,E9,k9,f9,rfl,hw9,hb⟩
     refine hK9.out _ _ (Cs.below hHeld hb) (λhHeld=>?_)
     rw [zfI] at hw9
     have HBx:=lh9 (zab HBx.out hb)
     have HM:=lh9 hw9
     clear hK9 KK hb hw9
     refine rc 29 (λKK hK9=>?_)
     go_simp
     (with_reducible refine(zbK (HT1.out _ HBx.out) HM.out (VZ.vec (HR1.out _ HBx.out).2) zep HZK.out).mono ?_)
     rintro eo w6 ⟨g7,rfl,hg7,ho7,hb⟩
     refine hK9.out _ _ (Cs.below hHeld hb) (λhHeld=>?_)
     have HV7:Hid (VZ g w6 (some ⟨g7,0,none⟩) m m (zaS (-1) (st.S.getD k []))):=⟨zaJ ho7,λad e=>by injection e with e;subst e;have:=HBx.out.size;have:=HE1.out.lt;show g<g7;omega⟩
     have HBx:=lh9 (zab HBx.out hb)
     clear hK9 KK hb ho7 hg7 HM
     refine tk 30 ?_
     refine rc 31 (λKK hK9=>?_)
     have hes:=HE1.out.below HBx.out
     obtain⟨q9,sc0,sf0⟩:=hes.ready hkn
     obtain⟨-,cs9,hk9,hs9⟩:=hes.neA (q:=gA) rfl
     have HES:=lh9 (hes.setRow hkn (HR2.out _ HBx.out).2 HLE1.out.2)
     have HV7:Hid (VZ g _ (some ⟨g7,0,none⟩) m m (zaS (-1) (st.S.getD k []))):=(zcB g).offS HV7.out hk9 hs9 (zbl.of_far ((zbj.refl gA _).set_ k (.slice C2 m e2)))
     have HBG:=lh9 (((HB.out.trans (HBx.out.mono HB.out.size)).mono (Nat.le_of_lt HG.out)).setCell (p:=⟨gA,k,none⟩) (show g<=gA from hgg) (.slice C2 m e2))
     have HKX:=lh9 (Blk.far (p:=⟨gA,k,none⟩) (zaa HBx.out HKC.out) (by show w.heap.size≠gA;have:=hkcA;omega) (.slice C2 m e2))
     clear hes hk9 hs9
     go_simp
     refine hK9.out _ _ (Cs.far hHeld ((zbj.refl gA _).set_ k (.slice C2 m e2)) ⟨(by show g≠gA;exact Ne.symm HNE.out),trivial⟩) (λhHeld=>?_)
     clear hK9 KK sc0 sf0
     refine tk 32 ?_
     refine rc 33 (λKK hK9=>?_)
     obtain⟨q9,sc0,sf0⟩:=HES.out.ready hkbn
     have HES2:=lh9 (HES.out.setRow hkbn HV7.out (by rw [zbz HLE1.out.1]))
     have HBG2:=lh9 (HBG.out.setCell (p:=⟨gA,kb,none⟩) (show g<=gA from hgg) (.slice (some ⟨g7,0,none⟩) m m))
     have HKX2:=lh9 (Blk.far (p:=⟨gA,kb,none⟩) HKX.out (by show w.heap.size≠gA;have:=hkcA;omega) (.slice (some ⟨g7,0,none⟩) m m))
     go_simp
     refine hK9.out _ _ (Cs.far hHeld ((zbj.refl gA _).set_ kb (.slice (some ⟨g7,0,none⟩) m m)) ⟨(by show g≠gA;exact Ne.symm HNE.out),trivial⟩) (λhHeld=>?_)
     clear hK9 KK sc0 sf0
     refine rdn ?_
     clear hHeld
     go_wp2
     go_meet
     exact⟨by rw [HS.out];exact HES2.out,HKX2.out,HBG2.out⟩
   ·go_simp
    (with_reducible refine(zcR (-1) _ (HT1.out _ HBx.out) (by decide) (by decide)).mono ?_)
    rintro eo w5 ⟨b9,A9,n9,c9,E9,k9,f9,rfl,hw9,hb⟩
    refine hK9.out _ _ (Cs.below hHeld hb) (λhHeld=>?_)
    rw [zfI] at hw9
    have HBx:=lh9 (zab HBx.out hb)
    have HM:=lh9 hw9
    clear hK9 KK hb hw9
    refine rcb 20 28 (λKK hK9=>?_) (λKK hK9=>?_)
    ·have hc9:=(HR2.out _ HBx.out).1
     go_simp
     refine hK9.out _ _ hHeld (λhHeld=>?_)
     clear hK9 KK hc9
     refine rc 28 (λKK hK9=>?_)
     have hc9:=(HR1.out _ HBx.out).1
     go_simp
     refine hK9.out _ _ hHeld (λhHeld=>?_)
     clear hK9 KK hc9
     refine rc 29 (λKK hK9=>?_)
     go_simp
     (with_reducible refine(zbK (HT1.out _ HBx.out) HM.out (VZ.vec (HR1.out _ HBx.out).2) zep HZK.out).mono ?_)
     rintro eo w6 ⟨g7,rfl,hg7,ho7,hb⟩
     refine hK9.out _ _ (Cs.below hHeld hb) (λhHeld=>?_)
     have HV7:Hid (VZ g w6 (some ⟨g7,0,none⟩) m m (zaS (-1) (st.S.getD k []))):=⟨zaJ ho7,λad e=>by injection e with e;subst e;have:=HBx.out.size;have:=HE1.out.lt;show g<g7;omega⟩
     have HBx:=lh9 (zab HBx.out hb)
     clear hK9 KK hb ho7 hg7 HM
     refine tk 30 ?_
     refine rc 31 (λKK hK9=>?_)
     have hes:=HE1.out.below HBx.out
     obtain⟨q9,sc0,sf0⟩:=hes.ready hkn
     obtain⟨-,cs9,hk9,hs9⟩:=hes.neA (q:=gA) rfl
     have HES:=lh9 (hes.setRow hkn (HR2.out _ HBx.out).2 HLE1.out.2)
     have HV7:Hid (VZ g _ (some ⟨g7,0,none⟩) m m (zaS (-1) (st.S.getD k []))):=(zcB g).offS HV7.out hk9 hs9 (zbl.of_far ((zbj.refl gA _).set_ k (.slice C2 m e2)))
     have HBG:=lh9 (((HB.out.trans (HBx.out.mono HB.out.size)).mono (Nat.le_of_lt HG.out)).setCell (p:=⟨gA,k,none⟩) (show g<=gA from hgg) (.slice C2 m e2))
     have HKX:=lh9 (Blk.far (p:=⟨gA,k,none⟩) (zaa HBx.out HKC.out) (by show w.heap.size≠gA;have:=hkcA;omega) (.slice C2 m e2))
     clear hes hk9 hs9
     go_simp
     refine hK9.out _ _ (Cs.far hHeld ((zbj.refl gA _).set_ k (.slice C2 m e2)) ⟨(by show g≠gA;exact Ne.symm HNE.out),trivial⟩) (λhHeld=>?_)
     clear hK9 KK sc0 sf0
     refine tk 32 ?_
     refine rc 33 (λKK hK9=>?_)
     obtain⟨q9,sc0,sf0⟩:=HES.out.ready hkbn
     have HES2:=lh9 (HES.out.setRow hkbn HV7.out (by rw [zbz HLE1.out.1]))
     have HBG2:=lh9 (HBG.out.setCell (p:=⟨gA,kb,none⟩) (show g<=gA from hgg) (.slice (some ⟨g7,0,none⟩) m m))
     have HKX2:=lh9 (Blk.far (p:=⟨gA,kb,none⟩) HKX.out (by show w.heap.size≠gA;have:=hkcA;omega) (.slice (some ⟨g7,0,none⟩) m m))
     go_simp
     refine hK9.out _ _ (Cs.far hHeld ((zbj.refl gA _).set_ kb (.slice (some ⟨g7,0,none⟩) m m)) ⟨(by show g≠gA;exact Ne.symm HNE.out),trivial⟩) (λhHeld=>?_)
     clear hK9 KK sc0 sf0
     refine rdn ?_
     clear hHeld
     go_wp2
     go_meet
     exact⟨by rw [HS.out];exact HES2.out,HKX2.out,HBG2.out⟩
    ·have hc9:=(HR1.out _ HBx.out).1
     go_simp
     refine hK9.out _ _ hHeld (λhHeld=>?_)
     clear hK9 KK hc9
     refine rcb 20 29 (λKK hK9=>?_) (λKK hK9=>?_)
     ·have hc9:=(HR2.out _ HBx.out).1
      go_simp
      refine hK9.out _ _ hHeld (λhHeld=>?_)
      clear hK9 KK hc9
      refine rc 29 (λKK hK9=>?_)
      go_simp
      (with_reducible refine(zbK (HT1.out _ HBx.out) HM.out (VZ.vec (HR1.out _ HBx.out).2) zep HZK.out).mono ?_)
      rintro eo w6 ⟨g7,rfl,hg7,ho7,hb⟩
      refine hK9.out _ _ (Cs.below hHeld hb) (λhHeld=>?_)
      have HV7:Hid (VZ g w6 (some ⟨g7,0,none⟩) m m (zaS (-1) (st.S.getD k []))):=⟨zaJ ho7,λad e=>by injection e with e;subst e;have:=HBx.out.size;have:=HE1.out.lt;show g<g7;omega⟩
      have HBx:=lh9 (zab HBx.out hb)
      clear hK9 KK hb ho7 hg7 HM
      refine tk 30 ?_
      refine rc 31 (λKK hK9=>?_)
      have hes:=HE1.out.below HBx.out
      obtain⟨q9,sc0,sf0⟩:=hes.ready hkn
      obtain⟨-,cs9,hk9,hs9⟩:=hes.neA (q:=gA) rfl
      have HES:=lh9 (hes.setRow hkn (HR2.out _ HBx.out).2 HLE1.out.2)
      have HV7:Hid (VZ g _ (some ⟨g7,0,none⟩) m m (zaS (-1) (st.S.getD k []))):=(zcB g).offS HV7.out hk9 hs9 (zbl.of_far ((zbj.refl gA _).set_ k (.slice C2 m e2)))
      have HBG:=lh9 (((HB.out.trans (HBx.out.mono HB.out.size)).mono (Nat.le_of_lt HG.out)).setCell (p:=⟨gA,k,none⟩) (show g<=gA from hgg) (.slice C2 m e2))
      have HKX:=lh9 (Blk.far (p:=⟨gA,k,none⟩) (zaa HBx.out HKC.out) (by show w.heap.size≠gA;have:=hkcA;omega) (.slice C2 m e2))
      clear hes hk9 hs9
      go_simp
      refine hK9.out _ _ (Cs.far hHeld ((zbj.refl gA _).set_ k (.slice C2 m e2)) ⟨(by show g≠gA;exact Ne.symm HNE.out),trivial⟩) (λhHeld=>?_)
      clear hK9 KK sc0 sf0
      refine tk 32 ?_
      refine rc 33 (λKK hK9=>?_)
      obtain⟨q9,sc0,sf0⟩:=HES.out.ready hkbn
      have HES2:=lh9 (HES.out.setRow hkbn HV7.out (by rw [zbz HLE1.out.1]))
      have HBG2:=lh9 (HBG.out.setCell (p:=⟨gA,kb,none⟩) (show g<=gA from hgg) (.slice (some ⟨g7,0,none⟩) m m))
      have HKX2:=lh9 (Blk.far (p:=⟨gA,kb,none⟩) HKX.out (by show w.heap.size≠gA;have:=hkcA;omega) (.slice (some ⟨g7,0,none⟩) m m))
      go_simp
      refine hK9.out _ _ (Cs.far hHeld ((zbj.refl gA _).set_ kb (.slice (some ⟨g7,0,none⟩) m m)) ⟨(by show g≠gA;exact Ne.symm HNE.out),trivial⟩) (λhHeld=>?_)
      clear hK9 KK sc0 sf0
      refine rdn ?_
      clear hHeld
      go_wp2
      go_meet
      exact⟨by rw [HS.out];exact HES2.out,HKX2.out,HBG2.out⟩
     ·go_simp
      (with_reducible refine(zbK (HT1.out _ HBx.out) HM.out (VZ.vec (HR1.out _ HBx.out).2) zep HZK.out).mono ?_)
      rintro eo w6 ⟨g7,rfl,hg7,ho7,hb⟩
      refine hK9.out _ _ (Cs.below hHeld hb) (λhHeld=>?_)
      have HV7:Hid (VZ g w6 (some ⟨g7,0,none⟩) m m (zaS (-1) (st.S.getD k []))):=⟨zaJ ho7,λad e=>by injection e with e;subst e;have:=HBx.out.size;have:=HE1.out.lt;show g<g7;omega⟩
      have HBx:=lh9 (zab HBx.out hb)
      clear hK9 KK hb ho7 hg7 HM
      refine rc 20 (λKK hK9=>?_)
      have hc9:=(HR2.out _ HBx.out).1
      go_simp
      refine hK9.out _ _ hHeld (λhHeld=>?_)
      clear hK9 KK hc9
      refine tk 30 ?_
      refine rc 31 (λKK hK9=>?_)
      have hes:=HE1.out.below HBx.out
      obtain⟨q9,sc0,sf0⟩:=hes.ready hkn
      obtain⟨-,cs9,hk9,hs9⟩:=hes.neA (q:=gA) rfl
      have HES:=lh9 (hes.setRow hkn (HR2.out _ HBx.out).2 HLE1.out.2)
      have HV7:Hid (VZ g _ (some ⟨g7,0,none⟩) m m (zaS (-1) (st.S.getD k []))):=(zcB g).offS HV7.out hk9 hs9 (zbl.of_far ((zbj.refl gA _).set_ k (.slice C2 m e2)))
      have HBG:=lh9 (((HB.out.trans (HBx.out.mono HB.out.size)).mono (Nat.le_of_lt HG.out)).setCell (p:=⟨gA,k,none⟩) (show g<=gA from hgg) (.slice C2 m e2))
      have HKX:=lh9 (Blk.far (p:=⟨gA,k,none⟩) (zaa HBx.out HKC.out) (by show w.heap.size≠gA;have:=hkcA;omega) (.slice C2 m e2))
      clear hes hk9 hs9
      go_simp
      refine hK9.out _ _ (Cs.far hHeld ((zbj.refl gA _).set_ k (.slice C2 m e2)) ⟨(by show g≠gA;exact Ne.symm HNE.out),trivial⟩) (λhHeld=>?_)
      clear hK9 KK sc0 sf0
      refine tk 32 ?_
      refine rc 33 (λKK hK9=>?_)
      obtain⟨q9,sc0,sf0⟩:=HES.out.ready hkbn
      have HES2:=lh9 (HES.out.setRow hkbn HV7.out (by rw [zbz HLE1.out.1]))
      have HBG2:=lh9 (HBG.out.setCell (p:=⟨gA,kb,none⟩) (show g<=gA from hgg) (.slice (some ⟨g7,0,none⟩) m m))
      have HKX2:=lh9 (Blk.far (p:=⟨gA,kb,none⟩) HKX.out (by show w.heap.size≠gA;have:=hkcA;omega) (.slice (some ⟨g7,0,none⟩) m m))
      go_simp
      refine hK9.out _ _ (Cs.far hHeld ((zbj.refl gA _).set_ kb (.slice (some ⟨g7,0,none⟩) m m)) ⟨(by show g≠gA;exact Ne.symm HNE.out),trivial⟩) (λhHeld=>?_)
      clear hK9 KK sc0 sf0
      refine rdn ?_
      clear hHeld
      go_wp2
      go_meet
      exact⟨by rw [HS.out];exact HES2.out,HKX2.out,HBG2.out⟩
   ·have hc9:=(HR1.out _ HBx.out).1
    go_simp
    refine hK9.out _ _ hHeld (λhHeld=>?_)
    clear hK9 KK hc9
    refine rcb 20 21 (λKK hK9=>?_) (λKK hK9=>?_)
    ·have hc9:=(HR2.out _ HBx.out).1
     go_simp
     refine hK9.out _ _ hHeld (λhHeld=>?_)
     clear hK9 KK hc9
     refine rc 21 (λKK hK9=>?_)
     go_simp
     (with_reducible refine(zcR (-1) _ (HT1.out _ HBx.out) (by decide) (by decide)).mono ?_)
     rintro eo w5 ⟨b9,A9,n9,c9,E9,k9,f9,rfl,hw9,hb⟩
     refine hK9.out _ _ (Cs.below hHeld hb) (λhHeld=>?_)
     rw [zfI] at hw9
     have HBx:=lh9 (zab HBx.out hb)
     have HM:=lh9 hw9
     clear hK9 KK hb hw9
     refine rc 29 (λKK hK9=>?_)
     go_simp
     (with_reducible refine(zbK (HT1.out _ HBx.out) HM.out (VZ.vec (HR1.out _ HBx.out).2) zep HZK.out).mono ?_)
     rintro eo w6 ⟨g7,rfl,hg7,ho7,hb⟩
     refine hK9.out _ _ (Cs.below hHeld hb) (λhHeld=>?_)
     have HV7:Hid (VZ g w6 (some ⟨g7,0,none⟩) m m (zaS (-1) (st.S.getD k []))):=⟨zaJ ho7,λad e=>by injection e with e;subst e;have:=HBx.out.size;have:=HE1.out.lt;show g<g7;omega⟩
     have HBx:=lh9 (zab HBx.out hb)
     clear hK9 KK hb ho7 hg7 HM
     refine tk 30 ?_
     refine rc 31 (λKK hK9=>?_)
     have hes:=HE1.out.below HBx.out
     obtain⟨q9,sc0,sf0⟩:=hes.ready hkn
     obtain⟨-,cs9,hk9,hs9⟩:=hes.neA (q:=gA) rfl
     have HES:=lh9 (hes.setRow hkn (HR2.out _ HBx.out).2 HLE1.out.2)
     have HV7:Hid (VZ g _ (some ⟨g7,0,none⟩) m m (zaS (-1) (st.S.getD k []))):=(zcB g).offS HV7.out hk9 hs9 (zbl.of_far ((zbj.refl gA _).set_ k (.slice C2 m e2)))
     have HBG:=lh9 (((HB.out.trans (HBx.out.mono HB.out.size)).mono (Nat.le_of_lt HG.out)).setCell (p:=⟨gA,k,none⟩) (show g<=gA from hgg) (.slice C2 m e2))
     have HKX:=lh9 (Blk.far (p:=⟨gA,k,none⟩) (zaa HBx.out HKC.out) (by show w.heap.size≠gA;have:=hkcA;omega) (.slice C2 m e2))
     clear hes hk9 hs9
     go_simp
     refine hK9.out _ _ (Cs.far hHeld ((zbj.refl gA _).set_ k (.slice C2 m e2)) ⟨(by show g≠gA;exact Ne.symm HNE.out),trivial⟩) (λhHeld=>?_)
     clear hK9 KK sc0 sf0
     refine tk 32 ?_
     refine rc 33 (λKK hK9=>?_)
     obtain⟨q9,sc0,sf0⟩:=HES.out.ready hkbn
     have HES2:=lh9 (HES.out.setRow hkbn HV7.out (by rw [zbz HLE1.out.1]))
     have HBG2:=lh9 (HBG.out.setCell (p:=⟨gA,kb,none⟩) (show g<=gA from hgg) (.slice (some ⟨g7,0,none⟩) m m))
     have HKX2:=lh9 (Blk.far (p:=⟨gA,kb,none⟩) HKX.out (by show w.heap.size≠gA;have:=hkcA;omega) (.slice (some ⟨g7,0,none⟩) m m))
     go_simp
     refine hK9.out _ _ (Cs.far hHeld ((zbj.refl gA _).set_ kb (.slice (some ⟨g7,0,none⟩) m m)) ⟨(by show g≠gA;exact Ne.symm HNE.out),trivial⟩) (λhHeld=>?_)
     clear hK9 KK sc0 sf0
     refine rdn ?_
     clear hHeld
     go_wp2
     go_meet
     exact⟨by rw [HS.out];exact HES2.out,HKX2.out,HBG2.out⟩
    ·go_simp
     (with_reducible refine(zcR (-1) _ (HT1.out _ HBx.out) (by decide) (by decide)).mono ?_)
     rintro eo w5 ⟨b9,A9,n9,c9,E9,k9,f9,rfl,hw9,hb⟩
     refine hK9.out _ _ (Cs.below hHeld hb) (λhHeld=>?_)
     rw [zfI] at hw9
     have HBx:=lh9 (zab HBx.out hb)
     have HM:=lh9 hw9
     clear hK9 KK hb hw9
     refine rcb 20 29 (λKK hK9=>?_) (λKK hK9=>?_)
     ·have hc9:=(HR2.out _ HBx.out).1
      go_simp
      refine hK9.out _ _ hHeld (λhHeld=>?_)
      clear hK9 KK hc9
      refine rc 29 (λKK hK9=>?_)
      go_simp
      (with_reducible refine(zbK (HT1.out _ HBx.out) HM.out (VZ.vec (HR1.out _ HBx.out).2) zep HZK.out).mono ?_)
      rintro eo w6 ⟨g7,rfl,hg7,ho7,hb⟩
      refine hK9.out _ _ (Cs.below hHeld hb) (λhHeld=>?_)
      have HV7:Hid (VZ g w6 (some ⟨g7,0,none⟩) m m (zaS (-1) (st.S.getD k []))):=⟨zaJ ho7,λad e=>by injection e with e;subst e;have:=HBx.out.size;have:=HE1.out.lt;show g<g7;omega⟩
      have HBx:=lh9 (zab HBx.out hb)
      clear hK9 KK hb ho7 hg7 HM
      refine tk 30 ?_
      refine rc 31 (λKK hK9=>?_)
      have hes:=HE1.out.below HBx.out
      obtain⟨q9,sc0,sf0⟩:=hes.ready hkn
      obtain⟨-,cs9,hk9,hs9⟩:=hes.neA (q:=gA) rfl
      have HES:=lh9 (hes.setRow hkn (HR2.out _ HBx.out).2 HLE1.out.2)
      have HV7:Hid (VZ g _ (some ⟨g7,0,none⟩) m m (zaS (-1) (st.S.getD k []))):=(zcB g).offS HV7.out hk9 hs9 (zbl.of_far ((zbj.refl gA _).set_ k (.slice C2 m e2)))
      have HBG:=lh9 (((HB.out.trans (HBx.out.mono HB.out.size)).mono (Nat.le_of_lt HG.out)).setCell (p:=⟨gA,k,none⟩) (show g<=gA from hgg) (.slice C2 m e2))
      have HKX:=lh9 (Blk.far (p:=⟨gA,k,none⟩) (zaa HBx.out HKC.out) (by show w.heap.size≠gA;have:=hkcA;omega) (.slice C2 m e2))
      clear hes hk9 hs9
      go_simp
      refine hK9.out _ _ (Cs.far hHeld ((zbj.refl gA _).set_ k (.slice C2 m e2)) ⟨(by show g≠gA;exact Ne.symm HNE.out),trivial⟩) (λhHeld=>?_)
      clear hK9 KK sc0 sf0
      refine tk 32 ?_
      refine rc 33 (λKK hK9=>?_)
      obtain⟨q9,sc0,sf0⟩:=HES.out.ready hkbn
      have HES2:=lh9 (HES.out.setRow hkbn HV7.out (by rw [zbz HLE1.out.1]))
      have HBG2:=lh9 (HBG.out.setCell (p:=⟨gA,kb,none⟩) (show g<=gA from hgg) (.slice (some ⟨g7,0,none⟩) m m))
      have HKX2:=lh9 (Blk.far (p:=⟨gA,kb,none⟩) HKX.out (by show w.heap.size≠gA;have:=hkcA;omega) (.slice (some ⟨g7,0,none⟩) m m))
      go_simp
      refine hK9.out _ _ (Cs.far hHeld ((zbj.refl gA _).set_ kb (.slice (some ⟨g7,0,none⟩) m m)) ⟨(by show g≠gA;exact Ne.symm HNE.out),trivial⟩) (λhHeld=>?_)
      clear hK9 KK sc0 sf0
      refine rdn ?_
      clear hHeld
      go_wp2
      go_meet
      exact⟨by rw [HS.out];exact HES2.out,HKX2.out,HBG2.out⟩
     ·go_simp
      (with_reducible refine(zbK (HT1.out _ HBx.out) HM.out (VZ.vec (HR1.out _ HBx.out).2) zep HZK.out).mono ?_)
      rintro eo w6 ⟨g7,rfl,hg7,ho7,hb⟩
      refine hK9.out _ _ (Cs.below hHeld hb) (λhHeld=>?_)
      have HV7:Hid (VZ g w6 (some ⟨g7,0,none⟩) m m (zaS (-1) (st.S.getD k []))):=⟨zaJ ho7,λad e=>by injection e with e;subst e;have:=HBx.out.size;have:=HE1.out.lt;show g<g7;omega⟩
      have HBx:=lh9 (zab HBx.out hb)
      clear hK9 KK hb ho7 hg7 HM
      refine rc 20 (λKK hK9=>?_)
      have hc9:=(HR2.out _ HBx.out).1
      go_simp
      refine hK9.out _ _ hHeld (λhHeld=>?_)
      clear hK9 KK hc9
      refine tk 30 ?_
      refine rc 31 (λKK hK9=>?_)
      have hes:=HE1.out.below HBx.out
      obtain⟨q9,sc0,sf0⟩:=hes.ready hkn
      obtain⟨-,cs9,hk9,hs9⟩:=hes.neA (q:=gA) rfl
      have HES:=lh9 (hes.setRow hkn (HR2.out _ HBx.out).2 HLE1.out.2)
      have HV7:Hid (VZ g _ (some ⟨g7,0,none⟩) m m (zaS (-1) (st.S.getD k []))):=(zcB g).offS HV7.out hk9 hs9 (zbl.of_far ((zbj.refl gA _).set_ k (.slice C2 m e2)))
      have HBG:=lh9 (((HB.out.trans (HBx.out.mono HB.out.size)).mono (Nat.le_of_lt HG.out)).setCell (p:=⟨gA,k,none⟩) (show g<=gA from hgg) (.slice C2 m e2))
      have HKX:=lh9 (Blk.far (p:=⟨gA,k,none⟩) (zaa HBx.out HKC.out) (by show w.heap.size≠gA;have:=hkcA;omega) (.slice C2 m e2))
      clear hes hk9 hs9
      go_simp
      refine hK9.out _ _ (Cs.far hHeld ((zbj.refl gA _).set_ k (.slice C2 m e2)) ⟨(by show g≠gA;exact Ne.symm HNE.out),trivial⟩) (λhHeld=>?_)
      clear hK9 KK sc0 sf0
      refine tk 32 ?_
      refine rc 33 (λKK hK9=>?_)
      obtain⟨q9,sc0,sf0⟩:=HES.out.ready hkbn
      have HES2:=lh9 (HES.out.setRow hkbn HV7.out (by rw [zbz HLE1.out.1]))
      have HBG2:=lh9 (HBG.out.setCell (p:=⟨gA,kb,none⟩) (show g<=gA from hgg) (.slice (some ⟨g7,0,none⟩) m m))
      have HKX2:=lh9 (Blk.far (p:=⟨gA,kb,none⟩) HKX.out (by show w.heap.size≠gA;have:=hkcA;omega) (.slice (some ⟨g7,0,none⟩) m m))
      go_simp
      refine hK9.out _ _ (Cs.far hHeld ((zbj.refl gA _).set_ kb (.slice (some ⟨g7,0,none⟩) m m)) ⟨(by show g≠gA;exact Ne.symm HNE.out),trivial⟩) (λhHeld=>?_)
      clear hK9 KK sc0 sf0
      refine rdn ?_
      clear hHeld
      go_wp2
      go_meet
      exact⟨by rw [HS.out];exact HES2.out,HKX2.out,HBG2.out⟩
 case rest=>
 obtain⟨hes,hkc,hbl⟩:=hcut
 clear HE HE1 HKC HB HPK d1 hb hlb HZ HD hck
 obtain⟨p0,-⟩:=hes.cells
 have HTG:Hid (∀w',Below g w w'->zai w'):=λw' hb=>(HT.out w (Below.refl _ _)).below hb hgt
 have HSL:Hid (S1.length=n):=HD1.out.rows
 rw [<-znY k c st.p S1] at hes
 clear HT
 go_wp2_with fail
 clear p0
 go_loopg [61] (n+1) (λgg ix wr=>∃(i:Nat),i<=n/\n<gg+i/\ix=.int .i64 i/\ElS wr g ⟨zcI k c st.p S1 i,st.ld,st.p⟩ rd (some ⟨gA,0,none⟩) n cA B k cB x0 x1 x2 y0 y1 y2/\Blk wr w.heap.size 3 #[.int .i64 (c:Int)]/\Below g w wr)
 case atStart=>exact⟨0,Nat.zero_le _,by omega,rfl,hes,hkc,hbl⟩
 case round=>
  clear hes hkc hbl
  obtain⟨i,hin,hg,rfl,hes,hkc,hbl⟩:=hrel
  by_cases hlt:i<n
  ·have d3:decide ((i:Int)<(n:Int))=true:=decide_eq_true (by omega)
   have i5:(0:Int)<=(i:Int):=by omega
   have i6:(i:Int)<(n:Int):=by omega
   have i7:(k:Int)<(n:Int):=by omega
   by_cases hik:i=k
   ·have d4:((i:Int) !=(k:Int))=false:=by rw [hik];simp
    have HR:Hid (ElS wr g ⟨zcI k c st.p S1 (i+1),st.ld,st.p⟩ rd (some ⟨gA,0,none⟩) n cA B k cB x0 x1 x2 y0 y1 y2):=by
     have hcs:zcI k c st.p S1 (i+1)=zcI k c st.p S1 i:=by rw [hik];exact znW
     rw [hcs];exact hes
    have HKC:=lh9 hkc
    have HBL:=lh9 hbl
    clear hes hkc hbl
    go_wp2
    go_roundg (n - i)
    case measure=>omega
    case rel=>exact⟨i+1,by omega,by omega,by go_num,HR.out,HKC.out,HBL.out⟩
   ·have d4:((i:Int) !=(k:Int))=true:=by rw [bne_iff_ne];omega
    have hri:(zcI k c st.p S1 i).getD i []=S1.getD i []:=by rw [zkD (by rw [HSL.out];exact hlt),if_pos (Or.inr (Nat.le_refl _))]
    have hrk:(zcI k c st.p S1 i).getD k []=S1.getD k []:=by rw [zkD (by rw [HSL.out];exact hkn),if_pos (Or.inl rfl)]
    have hst:(zcI k c st.p S1 i).set i (zdl st.p (S1.getD i []) (S1.getD k []) c)=zcI k c st.p S1 (i+1):=znX (by rw [HSL.out];exact hlt) hik
    have HLI:Hid ((S1.getD i []).length=m):=HD1.out.row hlt
    have HLK1:Hid ((S1.getD k []).length=m):=HD1.out.row hkn
    have HZI:Hid (zau Ks (S1.getD i [])):=HZ1.out.row (by rw [HSL.out];exact hlt)
    have HZK:Hid (zau Ks (S1.getD k [])):=HZ1.out.row (by rw [HSL.out];exact hkn)
    obtain⟨Ci,di,hci,hvi⟩:=hes.row (i:=i) (m:=m) hlt (show((zcI k c st.p S1 i).getD i []).length=m by rw [hri];exact HLI.out)
    obtain⟨Ck,dk,hck,hvk⟩:=hes.row (i:=k) (m:=m) hkn (show((zcI k c st.p S1 i).getD k []).length=m by rw [hrk];exact HLK1.out)
    have hvi:VZ g wr Ci m di (S1.getD i []):=by rw [<-hri];exact hvi
    have hvk:VZ g wr Ck m dk (S1.getD k []):=by rw [<-hrk];exact hvk
    have HST:=lh9 hst
    generalize S1.getD i []=ri at*
    generalize S1.getD k []=rk at*
    obtain⟨p0,-⟩:=hes.cells
    have q0:=hkc.c1
    have HES:=lh9 hes
    have HKC:=lh9 hkc
    have HBL:=lh9 hbl
    have HVI:=lh9 (λw' (hb:Below wr.heap.size wr w')=>VZ.vec ((zcB g).below hvi hb))
    have HVK:=lh9 (λw' (hb:Below wr.heap.size wr w')=>VZ.vec ((zcB g).below hvk hb))
    have HCI:=lh9 (λw' (hb:Below wr.heap.size wr w')=>zac hb hci)
    clear hes hkc hbl hci hvi hvk hri hrk hst
    go_upto_region 10 with fail
    have HBx:=lh9 ((Below.refl wr.heap.size wr).drew)
    refine rg (csc p0 (csc hck (csc q0 csn))) (λhHeld=>?_)
    clear p0 hck q0
    generalize wr.drew=D at*
    refine tk 0 ?_
    refine tk 1 ?_
    refine tk 2 ?_
    refine tk 3 ?_
    refine tk 4 ?_
    refine tk 5 ?_
    refine tk 6 ?_
    refine tk 7 ?_
    refine tk 8 ?_
    refine tk 9 ?_
    refine tk 10 ?_
    refine tk 11 ?_
    refine tk 13 ?_
    refine tk 14 ?_
    refine tk 15 ?_
    refine tk 16 ?_
    refine tk 17 ?_
    refine tk 18 ?_
    refine tk 19 ?_
    refine tk 20 ?_
    refine rc 12 (λKK hK9=>?_)
    have hc9:=HCI.out _ HBx.out
    go_simp
    refine hK9.out _ _ hHeld (λhHeld=>?_)
    clear hK9 KK hc9
    refine rc 21 (λKK hK9=>?_)
    go_simp
    (with_reducible refine(zlF (HTG.out _ (HBL.out.trans (HBx.out.mono (Nat.le_of_lt HES.out.lt)))) (HES.out.below HBx.out) (HVI.out _ HBx.out) (HVK.out _ HBx.out) hc HZI.out HZK.out HZP.out HNP.out (by omega) hKs4).mono ?_)
    rintro eo w6 ⟨g7,rfl,hg7,ho7,hb⟩
    refine hK9.out _ _ (Cs.below hHeld hb) (λhHeld=>?_)
    clear hK9 KK
    have HV7:Hid (VZ g w6 (some ⟨g7,0,none⟩) m m (zdl st.p ri rk c)):=⟨zaJ ho7,λad e=>by injection e with e;subst e;have:=HBx.out.size;have:=HES.out.lt;show g<g7;omega⟩
    have HBx:=lh9 (zab HBx.out hb)
    clear hb hg7 ho7
    refine tk 22 ?_
    refine rc 23 (λKK hK9=>?_)
    have hes2:=HES.out.below HBx.out
    obtain⟨q9,sc0,sf0⟩:=hes2.ready hlt
    have HR:Hid (ElS (w6.setCell ⟨gA,i,none⟩ (.slice (some ⟨g7,0,none⟩) m m)) g ⟨zcI k c st.p S1 (i+1),st.ld,st.p⟩ rd (some ⟨gA,0,none⟩) n cA B k cB x0 x1 x2 y0 y1 y2):=by
     have:=hes2.setRow hlt HV7.out (zje HLI.out HLK1.out)
     rw [<-HST.out];exact this
    have HBL2:=lh9 ((HBL.out.trans (HBx.out.mono (Nat.le_of_lt HES.out.lt))).setCell (p:=⟨gA,i,none⟩) (show g<=gA from hgg) (.slice (some ⟨g7,0,none⟩) m m))
    have HKC2:=lh9 (Blk.far (p:=⟨gA,i,none⟩) (zaa HBx.out HKC.out) (by show w.heap.size≠gA;omega) (.slice (some ⟨g7,0,none⟩) m m))
    clear hes2
    go_simp
    refine hK9.out _ _ ?_ (λhHeld=>?_)
    ·obtain⟨a1,a2,a3,-⟩:=hHeld
     exact⟨zag (q:=⟨gA,i,none⟩) _ (by show g≠gA;exact Ne.symm HNE.out) a1,(World.cell?_setCell_other w6 ⟨gA,i,none⟩ ⟨gA,k,none⟩ _ (λe=>hik (by injection e))).trans a2,zag (q:=⟨gA,i,none⟩) _ (by show w.heap.size≠gA;omega) a3,trivial⟩
    clear hK9 KK sc0 sf0
    refine rdn ?_
    clear hHeld
    go_wp2
    go_roundg (n - i)
    case measure=>omega
    case rel=>exact⟨i+1,by omega,by omega,by go_num,HR.out,HKC2.out,HBL2.out⟩
  ·have hk9:i=n:=by omega
   have d3:decide ((i:Int)<(n:Int))=false:=by rw [hk9];simp
   rw [hk9,zqc HSL.out] at hes
   have hrk:(zhL k c st.p S1).getD k []=S1.getD k []:=by rw [zmA (by rw [HSL.out];exact hkn),if_pos rfl]
   have hlk:((zhL k c st.p S1).getD k []).length=m:=by rw [hrk];exact HD1.out.row hkn
   obtain⟨Ck,dk,hck,hvk⟩:=hes.row (i:=k) (m:=m) hkn hlk
   have hvk:VZ g wr Ck m dk (S1.getD k []):=by rw [<-hrk];exact hvk
   obtain⟨ad,b1,B1,m1,d1,E1,u1,v1,rfl,had,h0,h1,h2,hx⟩:=(VZ.vec hvk).get (Below.refl _ _) hc
   obtain⟨p0,-,p2,p3,p4,-⟩:=hes.cells
   have i5:(0:Int)<=(c:Int):=by omega
   have i6:(c:Int)<(m:Int):=by omega
   have i7:(k:Int)<(n:Int):=by omega
   have q0:=hkc.c1
   have hvzn:=hvk.2
   have HES0:=lh9 hes.lt
   have HX:Hid (zah wr (atM S1 k c) b1 B1 m1 d1 E1 u1 v1):=hx
   have HES:=lh9 hes
   have HKC:=lh9 hkc
   have HBL:=lh9 hbl
   clear hes hkc hbl hvk hx hrk hlk
   go_upto_region 12 with fail
   have HAD:Hid (ad.block≠g):=by have:=hvzn ad rfl;show ad.block≠g;omega
   have hbd:=(Below.refl wr.heap.size wr).drew
   refine rg (csc p0 (csc hck (csc q0 (csc h0 (csc h1 (csc h2 csn)))))) (λhHeld=>?_)
   have HES:=lh9 (HES.out.below hbd)
   have HRV:=lh9 (RV.of (HX.out.below hbd))
   have HKC:=lh9 (zaa hbd HKC.out)
   have HBL:=lh9 (HBL.out.trans (hbd.mono (Nat.le_of_lt HES0.out)))
   clear p0 hck q0 h0 h1 h2 hbd p2 p3 p4 HX hvzn
   generalize wr.drew=D at*
   refine tk 0 ?_
   refine tk 1 ?_
   refine tk 2 ?_
   refine tk 3 ?_
   refine tk 4 ?_
   refine tk 5 ?_
   refine tk 6 ?_
   refine tk 7 ?_
   refine tk 8 ?_
   refine tk 9 ?_
   refine tk 10 ?_
   refine tk 11 ?_
   refine tk 12 ?_
   have hk0:=HES.out.blk
   have sc0:D.cell? ⟨g,2,none⟩=some x0:=hk0.cell 2
   have sf0:=hk0.frozen 2
   have sc1:(D.setCell ⟨g,2,none⟩ (.bool b1)).cell? ⟨g,3,none⟩=some x1:=(hk0.set_ 2 (.bool b1)).cell 3
   have sf1:=(hk0.set_ 2 (.bool b1)).frozen 3
   have sc2:((D.setCell ⟨g,2,none⟩ (.bool b1)).setCell ⟨g,3,none⟩ (.slice B1 m1 d1)).cell? ⟨g,4,none⟩=some x2:=((hk0.set_ 2 (.bool b1)).set_ 3 (.slice B1 m1 d1)).cell 4
   have sf2:=((hk0.set_ 2 (.bool b1)).set_ 3 (.slice B1 m1 d1)).frozen 4
   have HES2:=lh9 (HES.out.newLead HRV.out)
   have hfar:=(((zbj.refl g D).set_ 2 (.bool b1)).set_ 3 (.slice B1 m1 d1)).set_ 4 (.slice E1 u1 v1)
   refine rc 13 (λKK hK9=>?_)
   go_simp
   refine hK9.out _ _ ⟨HES2.out.cells.1,Cs.far hHeld.2 hfar ⟨HNE.out,(by show w.heap.size≠g;have:=HG.out;omega),ziL HAD.out,(by show(ad.add (c*3)).block≠g;exact ziL HAD.out),(by show(ad.add (c*3)).block≠g;exact ziL HAD.out),trivial⟩⟩ (λhHeld=>?_)
   clear hK9 KK sc0 sf0 sc1 sf1 sc2 sf2 hk0
   refine rdn ?_
   have HKC:=lh9 (Blk.far (p:=⟨g,4,none⟩) (Blk.far (p:=⟨g,3,none⟩) (Blk.far (p:=⟨g,2,none⟩) HKC.out (by show w.heap.size≠g;have:=HG.out;omega) (.bool b1)) (by show w.heap.size≠g;have:=HG.out;omega) (.slice B1 m1 d1)) (by show w.heap.size≠g;have:=HG.out;omega) (.slice E1 u1 v1))
   have HBL:=lh9 (((HBL.out.setCell (p:=⟨g,2,none⟩) (Nat.le_refl g) (.bool b1)).setCell (p:=⟨g,3,none⟩) (Nat.le_refl g) (.slice B1 m1 d1)).setCell (p:=⟨g,4,none⟩) (Nat.le_refl g) (.slice E1 u1 v1))
   clear hHeld hfar HES HRV HES0 HAD
   generalize ((D.setCell ⟨g,2,none⟩ (.bool b1)).setCell ⟨g,3,none⟩ (.slice B1 m1 d1)).setCell ⟨g,4,none⟩ (.slice E1 u1 v1)=D2 at*
   go_upto_region 13 with fail
   have q0:=HKC.out.c1
   have hbd:=(Below.refl D2.heap.size D2).drew
   refine rg (csc q0 csn) (λhHeld=>?_)
   have HES:=lh9 (HES2.out.below hbd)
   have HKC:=lh9 (zaa hbd HKC.out)
   have HBL:=lh9 (HBL.out.trans (hbd.mono (Nat.le_of_lt HES2.out.lt)))
   clear q0 hbd HES2
   generalize D2.drew=D3 at*
   refine tk 0 ?_
   refine tk 1 ?_
   refine tk 2 ?_
   refine tk 3 ?_
   refine tk 5 ?_
   refine rcb 4 6 (λKK hK9=>?_) (λKK hK9=>?_)
   ·obtain⟨-,q1,-⟩:=HES.out.cells
    go_simp
    refine hK9.out _ _ hHeld (λhHeld=>?_)
    clear hK9 KK q1
    refine rc 6 (λKK hK9=>?_)
    go_simp
    obtain⟨t1,t2,-⟩:=zav D3 3 #[.int .i64 (c:Int)]
    refine hK9.out _ _ (Cs.below hHeld t1) (λhHeld=>?_)
    have HBL:=lh9 (HBL.out.trans (t1.mono (Nat.le_of_lt HES.out.lt)))
    have HCELL:Hid (∀j u,[Value.int .i64 (c:Int)][j]?=some u->(D3.alloc (.cells #[.int .i64 (c:Int)] 3)).cell? ((⟨D3.heap.size,0,none⟩:Addr).add j)=some u):=zck D3 (.int .i64 (c:Int)) 3
    have HES:=lh9 (HES.out.below t1)
    have HKC:=lh9 (zaa t1 HKC.out)
    clear hK9 KK t1 t2
    generalize D3.alloc (.cells #[.int .i64 (c:Int)] 3)=D4 at*
    generalize D3.heap.size=q9 at*
    have HOWN:=lh9 HES.out.lds.own
    rw [HLK.out] at HOWN
    have HPR:=lh9 HES.out.lds.pr
    have HONE:Hid (∀u ∈ [Value.int .i64 (c:Int)],u.oneCell'=true):=by intro u hu;simp at hu;subst hu;rfl
    have HNN:Hid (∀u ∈ [Value.int .i64 (c:Int)],zgZ u):=by intro u hu;simp at hu;exact⟨_,hu⟩
    have HZS:Hid (∀u ∈(Value.int .i64 0).cells.toList,zgZ u):=by intro u hu;simp [Value.cells] at hu;exact⟨_,hu⟩
    have HLT:=lh9 HES.out.lt
    obtain⟨i9,hi9,hz9,hz10,hz11⟩:=info_parts infoI
    refine rc 7 (λKK hK9=>?_)
    refine zhH _ (.tmp 108) (.tmp 110) 44 rfl g 3 i9 (.int .i64 0) 1 8 Tryz.underlying44 hi9 hz9 hz10 hz11 rfl (by decide) (.slice B k cB) k (ldV st.ld) rfl HOWN.out ⟨q9,0,none⟩ 1 1 [.int .i64 (c:Int)] rfl rfl HCELL.out HONE.out (by unfold maxLen;omega) (by omega) (Nat.le_of_lt HLT.out) HPR.out HZS.out HNN.out ?_
    intro v' w8 hown' hgrow hat hpr'
    obtain⟨B8,c8,rfl,hes9⟩:=HES.out.growLd hgrow hown' hpr'
    have hk8:=(HES.out.grownB hgrow).1
    have HKC8:Hid (Blk w8 w.heap.size 3 #[.int .i64 (c:Int)]):=zcw HKC.out hgrow (λe=>by have:=(HOB.out _ e).1;omega)
    have HBL9:=lh9 ((HBL.out.grown hgrow (Nat.le_of_lt HLT.out) (λr hr=>(HOB.out r hr).2)).setCell (p:=⟨g,1,none⟩) (Nat.le_refl g) (.slice B8 (k+1) c8))
    have HES9:=lh9 hes9
    have HKC9:=lh9 (Blk.far (p:=⟨g,1,none⟩) HKC8.out (by show w.heap.size≠g;have:=HG.out;omega) (.slice B8 (k+1) c8))
    have HK8:=lh9 hk8
    clear hes9 hk8 hown' hgrow hat hpr' HOWN HPR HCELL HZS HNN HONE
    refine hK9.out _ _ (csc HKC8.out.c1 csn) (λhHeld=>?_)
    clear hK9 KK
    refine tk 8 ?_
    refine tk 9 ?_
    have sc0:w8.cell? ⟨g,1,none⟩=some (.slice B k cB):=HK8.out.cell 1
    have sf0:=HK8.out.frozen 1
    refine rc 10 (λKK hK9=>?_)
    go_simp
    refine hK9.out _ _ (csc HKC9.out.c1 csn) (λhHeld=>?_)
    clear hK9 KK sc0 sf0
    refine rdn ?_
    clear hHeld
    go_wp2
    refine bodyPost_end (v:=.tuple #[]) (by simp [results,Tryz.results133,go_sem]) rfl ?_
    exact⟨rfl,⟨_,_,_,_,_,_,_,_,_,_,_,HES9.out⟩,HBL9.out⟩
   ·go_simp
    obtain⟨t1,t2,-⟩:=zav D3 3 #[.int .i64 (c:Int)]
    refine hK9.out _ _ (Cs.below hHeld t1) (λhHeld=>?_)
    have HBL:=lh9 (HBL.out.trans (t1.mono (Nat.le_of_lt HES.out.lt)))
    have HCELL:Hid (∀j u,[Value.int .i64 (c:Int)][j]?=some u->(D3.alloc (.cells #[.int .i64 (c:Int)] 3)).cell? ((⟨D3.heap.size,0,none⟩:Addr).add j)=some u):=zck D3 (.int .i64 (c:Int)) 3
    have HES:=lh9 (HES.out.below t1)
    have HKC:=lh9 (zaa t1 HKC.out)
    clear hK9 KK t1 t2
    generalize D3.alloc (.cells #[.int .i64 (c:Int)] 3)=D4 at*
    generalize D3.heap.size=q9 at*
    refine rc 4 (λKK hK9=>?_)
    obtain⟨-,q1,-⟩:=HES.out.cells
    go_simp
    refine hK9.out _ _ hHeld (λhHeld=>?_)
    clear hK9 KK q1
    have HOWN:=lh9 HES.out.lds.own
    rw [HLK.out] at HOWN
    have HPR:=lh9 HES.out.lds.pr
    have HONE:Hid (∀u ∈ [Value.int .i64 (c:Int)],u.oneCell'=true):=by intro u hu;simp at hu;subst hu;rfl
    have HNN:Hid (∀u ∈ [Value.int .i64 (c:Int)],zgZ u):=by intro u hu;simp at hu;exact⟨_,hu⟩
    have HZS:Hid (∀u ∈(Value.int .i64 0).cells.toList,zgZ u):=by intro u hu;simp [Value.cells] at hu;exact⟨_,hu⟩
    have HLT:=lh9 HES.out.lt
    obtain⟨i9,hi9,hz9,hz10,hz11⟩:=info_parts infoI
    refine rc 7 (λKK hK9=>?_)
    refine zhH _ (.tmp 108) (.tmp 110) 44 rfl g 3 i9 (.int .i64 0) 1 8 Tryz.underlying44 hi9 hz9 hz10 hz11 rfl (by decide) (.slice B k cB) k (ldV st.ld) rfl HOWN.out ⟨q9,0,none⟩ 1 1 [.int .i64 (c:Int)] rfl rfl HCELL.out HONE.out (by unfold maxLen;omega) (by omega) (Nat.le_of_lt HLT.out) HPR.out HZS.out HNN.out ?_
    intro v' w8 hown' hgrow hat hpr'
    obtain⟨B8,c8,rfl,hes9⟩:=HES.out.growLd hgrow hown' hpr'
    have hk8:=(HES.out.grownB hgrow).1
    have HKC8:Hid (Blk w8 w.heap.size 3 #[.int .i64 (c:Int)]):=zcw HKC.out hgrow (λe=>by have:=(HOB.out _ e).1;omega)
    have HBL9:=lh9 ((HBL.out.grown hgrow (Nat.le_of_lt HLT.out) (λr hr=>(HOB.out r hr).2)).setCell (p:=⟨g,1,none⟩) (Nat.le_refl g) (.slice B8 (k+1) c8))
    have HES9:=lh9 hes9
    have HKC9:=lh9 (Blk.far (p:=⟨g,1,none⟩) HKC8.out (by show w.heap.size≠g;have:=HG.out;omega) (.slice B8 (k+1) c8))
    have HK8:=lh9 hk8
    clear hes9 hk8 hown' hgrow hat hpr' HOWN HPR HCELL HZS HNN HONE
    refine hK9.out _ _ (csc HKC8.out.c1 csn) (λhHeld=>?_)
    clear hK9 KK
    refine tk 8 ?_
    refine tk 9 ?_
    have sc0:w8.cell? ⟨g,1,none⟩=some (.slice B k cB):=HK8.out.cell 1
    have sf0:=HK8.out.frozen 1
    refine rc 10 (λKK hK9=>?_)
    go_simp
    refine hK9.out _ _ (csc HKC9.out.c1 csn) (λhHeld=>?_)
    clear hK9 KK sc0 sf0
    refine rdn ?_
    clear hHeld
    go_wp2
    refine bodyPost_end (v:=.tuple #[]) (by simp [results,Tryz.results133,go_sem]) rfl ?_
    exact⟨rfl,⟨_,_,_,_,_,_,_,_,_,_,_,HES9.out⟩,HBL9.out⟩
end
