/- What this claim leans on. -/
import Derived.Test.YtghpdeciaaagnaaGreatDoorQVCmp
namespace Go.Proofs.YtghpdeciaaagnaaGreatDoor
open Go Go.RowKit
set_option maxHeartbeats 16000000
set_option maxRecDepth 100000
set_option linter.unusedVariables false
set_option linter.unusedSimpArgs false
theorem znj {w:World}{a s:Nat}{t:TypeId}{v:Value}{n:Nat}{xs:List Value}(h:w.ownsRow a t s v n xs):∃A c,v=.slice A n c:=by
 rcases h.2 with⟨h1,h2⟩|⟨g,cap,cur,h1,_⟩
 ·subst h2;exact⟨_,_,h1⟩
 ·exact⟨_,_,h1⟩
section
variable {w w':World}{g m:Nat}{e:LSt}{n cA:Nat}{k cB:Nat}{l cD:Nat}{A B D:oA9}{x0 x1 x2:Value}{qs:List Nat}
theorem LuS.growRow {q:Nat}{L:List Rat}{v':Value}(h:LuS w g m e A n cA B k cB D l cD x0 x1 x2 qs)(hg:w.grownBy w' (Value.slice A n cA).ownBlock)(ho:w'.ownsRow g 61 1 v' (n+1) (slV m qs++[.slice (some ⟨q,0,none⟩) m m]))(hp:zbM w' v')(hv:zaI w q m L)(hq:g<q)(y:q ∉ qs)(v:(Value.slice B k cB).ownBlock≠some q):
  ∃A' cA',v'=.slice A' (n+1) cA'/\LuS (w'.setCell ⟨g,0,none⟩ v') g m {e with S:=e.S++[L]} A' (n+1) cA' B k cB D l cD x0 x1 x2 (qs++[q]):=by
 have o:Blk w' g 142 #[.slice A n cA,.slice B k cB,.slice D l cD,x0,x1,x2]/\(∃us,zcc zaf w' g 41 (.slice B k cB) e.T us)/\zde w' g (.slice D l cD) e.P/\RV w' e.rd x0 x1 x2/\(∀i,i<e.S.length->zaI w' (qs.getD i 0) m (e.S.getD i []))/\zaI w' q m L:=by
  cases hA:(Value.slice A n cA).ownBlock with
  |none=>
    rw [hA] at hg;have hb:=zaX hg;have h2:=h.below hb;exact⟨h2.blk,h2.times,h2.perm,h2.rsd,h2.rows.row,hv.keep hb⟩
  |some b=>
    rw [hA] at hg;obtain⟨b1,b2,b3,b4,b5⟩:=h.turnA hA (zaK.grown hg);obtain⟨_,cs,h1,hs⟩:=h.rows.at_ hA;obtain⟨ds,h2,_⟩:=hv.blk;exact⟨b1,b2,b3,b4,b5,hv.turn (zaK.grown hg) h1 (zeJ hs) (zbo h2 h1 de9)⟩
 obtain⟨b1,⟨us,b2⟩,b3,b4,b5,b6⟩:=o;have hn:=h.hn;have hl:=h.rows.len;have c : zdb w' g v' m (e.S ++ [L]) (qs ++ [q]):={
  own:=by
   have e1:slV m (qs++[q])=slV m qs++[.slice (some ⟨q,0,none⟩) m m]:=by unfold slV;rw [List.map_append];rfl
   rw [e1,List.length_append,hn];exact ho
  sl:=hp
  len:=by rw [List.length_append,List.length_append,hl];rfl
  row:=λi hi=>by
   rw [List.length_append] at hi;by_cases hlt:i<e.S.length
   ·rw [List.getD_eq_getElem?_getD,List.getElem?_append_left om9,<-List.getD_eq_getElem?_getD,List.getD_eq_getElem?_getD (l:=e.S++[L]),List.getElem?_append_left hlt,<-List.getD_eq_getElem?_getD];exact b5 i hlt
   ·have u:i=e.S.length:=by simp at hi;omega
    subst u;rw [List.getD_eq_getElem?_getD,List.getElem?_append_right om9,hl,Nat.sub_self,List.getD_eq_getElem?_getD (l:=e.S++[L]),List.getElem?_append_right om9,Nat.sub_self];exact b6
  lo:=λq9 h9=>by
   rcases List.mem_append.1 h9 with h9|h9
   ·exact h.rows.lo q9 h9
   ·rw [List.mem_singleton.1 h9];exact hq
  nd:=by
   rw [List.nodup_append];refine⟨h.rows.nd,si9,λa ha b hb=>?_⟩;rw [List.mem_singleton.1 hb];intro e9;exact y (e9▸ha)}
 have d:=h.nok;have ht:=zaK.set_ g 0 w' v';have r:v'.ownBlock≠some g:=λe9=>by
  obtain⟨_,cs,h1,_⟩:=c.at_ e9;exact zbo h1 b1 de9 rfl
 have s:(Value.slice B k cB).ownBlock≠some g:=λe9=>by obtain⟨_,cs,h1,_⟩:=h.atB e9;exact zbo h1 h.blk de9 rfl
 have t:(Value.slice D l cD).ownBlock≠some g:=λe9=>by obtain⟨_,cs,h1,_⟩:=h.atD e9;exact zbo h1 h.blk de9 rfl
 have j:=c.turn ht b1 d r (λe9=>by have:=c.lo g e9;omega);have z:∀q9,(Value.slice B k cB).ownBlock=some q9->q9 ∉ qs++[q]:=λq9 h9 h8=>by
  rcases List.mem_append.1 h8 with h8|h8
  ·exact h.tq q9 h9 h8
  ·rw [List.mem_singleton.1 h8] at h9;exact v h9
 have f:(e.S++[L]).length=n+1:=by rw [List.length_append,hn];rfl
 obtain⟨A',c',eA⟩:=znj j.own;rw [f] at eA;subst eA;exact⟨A',c',rfl,{blk:=b1.set_ 0 _,hn:=f,hk:=h.hk,hl:=h.hl,rows:=j,times:=⟨us,b2.turn ht b1 d s⟩,perm:=b3.turn ht t,rsd:=b4.off b1 d ht.1,tq:=z}⟩
theorem LuS.growTime {x:Rat}{v':Value}{us:List Value}{b:Bool}{C F:oA9}{p d u f:Nat}(h:LuS w g m e A n cA B k cB D l cD x0 x1 x2 qs)(hu:zcc zaf w g 41 (.slice B k cB) e.T us)(hg:w.grownBy w' (Value.slice B k cB).ownBlock)(ho:w'.ownsRow g 41 3 v' (k+1) (us++[.bool b,.slice C p d,.slice F u f]))(hp:zbD w' v')(hx:zaf w x b C p d F u f)(i:v'.ownBlock=(Value.slice B k cB).ownBlock\/v'.ownBlock=some w.heap.size):
  ∃B' cB',v'=.slice B' (k+1) cB'/\LuS (w'.setCell ⟨g,1,none⟩ v') g m {e with T:=e.T++[x]} A n cA B' (k+1) cB' D l cD x0 x1 x2 qs:=by
 have j:Blk w' g 142 #[.slice A n cA,.slice B k cB,.slice D l cD,x0,x1,x2]/\zdb w' g (.slice A n cA) m e.S qs/\zde w' g (.slice D l cD) e.P/\RV w' e.rd x0 x1 x2:=by
  cases hB:(Value.slice B k cB).ownBlock with
  |none=>
    rw [hB] at hg;have h2:=h.below (zaX hg);exact⟨h2.blk,h2.rows,h2.perm,h2.rsd⟩
  |some b=>
    rw [hB] at hg;exact h.turnB hB (zaK.grown hg)
 obtain⟨b1,b2,b3,b4⟩:=j;have hk:=h.hk;have t:=zcc.grow zak hu hx ho om9 hg hp;have a:=h.nok;have ht:=zaK.set_ g 1 w' v';have v:∀q,v'.ownBlock=some q->q ∉ qs:=λq e9 h9=>by
  rcases i with h1|h1
  ·exact h.tq q (h1▸e9) h9
  ·rw [h1] at e9;injection e9 with e9;obtain⟨_,cs,h2,_⟩:=h.atQ h9;have:=h2.lt;omega
 have r:v'.ownBlock≠some g:=λe9=>by
  rcases i with h1|h1
  ·obtain⟨_,cs,h2,_⟩:=h.atB (h1▸e9);exact zbo h2 h.blk de9 rfl
  ·rw [h1] at e9;injection e9 with e9;have:=h.lt;omega
 have o:(Value.slice A n cA).ownBlock≠some g:=λe9=>by obtain⟨_,cs,h1,_⟩:=h.rows.at_ e9;exact zbo h1 h.blk de9 rfl
 have s:(Value.slice D l cD).ownBlock≠some g:=λe9=>by obtain⟨_,cs,h1,_⟩:=h.atD e9;exact zbo h1 h.blk de9 rfl
 have c:=t.turn ht b1 a r;obtain⟨B',c',eB,_⟩:=c.shape;rw [List.length_append,hk] at eB;have eB:v'=.slice B' (k+1) c':=eB;subst eB;exact⟨B',c',rfl,{blk:=b1.set_ 1 _,hn:=h.hn,hk:=by show(e.T++[x]).length=k+1;rw [List.length_append,hk];rfl,hl:=h.hl,rows:=b2.turn ht b1 a o (λe9=>by have:=h.rows.lo g e9;omega),times:=⟨_,c⟩,perm:=b3.turn ht s,rsd:=b4.off b1 a ht.1,tq:=v}⟩
theorem LuS.growPerm {c:Nat}{v':Value}(h:LuS w g m e A n cA B k cB D l cD x0 x1 x2 qs)(hg:w.grownBy w' (Value.slice D l cD).ownBlock)(ho:w'.ownsRow g 3 1 v' (l+1) (ldV e.P++[.int .i64 (c:Int)]))(hp:zfK zih w' v'):
  ∃D' cD',v'=.slice D' (l+1) cD'/\LuS (w'.setCell ⟨g,2,none⟩ v') g m {e with P:=e.P++[c]} A n cA B k cB D' (l+1) cD' x0 x1 x2 qs:=by
 have i:Blk w' g 142 #[.slice A n cA,.slice B k cB,.slice D l cD,x0,x1,x2]/\zdb w' g (.slice A n cA) m e.S qs/\(∃us,zcc zaf w' g 41 (.slice B k cB) e.T us)/\RV w' e.rd x0 x1 x2:=by
  cases hD:(Value.slice D l cD).ownBlock with
  |none=>
    rw [hD] at hg;have h2:=h.below (zaX hg);exact⟨h2.blk,h2.rows,h2.times,h2.rsd⟩
  |some b=>
    rw [hD] at hg;exact h.turnD hD (zaK.grown hg)
 obtain⟨b1,b2,⟨us,b3⟩,b4⟩:=i;have hl:=h.hl;have f:zde w' g v' (e.P++[c]):=⟨by
  have:ldV (e.P++[c])=ldV e.P++[.int .i64 (c:Int)]:=by unfold ldV;rw [List.map_append];rfl
  rw [this,List.length_append,hl];exact ho,hp⟩
 have a:=h.nok;have ht:=zaK.set_ g 2 w' v';have j:(Value.slice A n cA).ownBlock≠some g:=λe9=>by obtain⟨_,cs,h1,_⟩:=h.rows.at_ e9;exact zbo h1 h.blk de9 rfl
 have o:(Value.slice B k cB).ownBlock≠some g:=λe9=>by obtain⟨_,cs,h1,_⟩:=h.atB e9;exact zbo h1 h.blk de9 rfl
 have r:v'.ownBlock≠some g:=λe9=>by
  rcases f.own.2 with⟨h1,_⟩|⟨g',cap,cur,e1,e2,e3,_⟩
  ·rw [h1] at e9;cases e9
  ·rw [e1] at e9;simp [Value.ownBlock] at e9;subst e9;exact zbo e3 b1 de9 rfl
 have d:=f.turn ht r;obtain⟨D',c',eD,_⟩:=d.shape;rw [List.length_append,hl] at eD;have eD:v'=.slice D' (l+1) c':=eD;subst eD;exact⟨D',c',rfl,{blk:=b1.set_ 2 _,hn:=h.hn,hk:=h.hk,hl:=by show(e.P++[c]).length=l+1;rw [List.length_append,hl];rfl,rows:=b2.turn ht b1 a j (λe9=>by have:=h.rows.lo g e9;omega),times:=⟨us,b3.turn ht b1 a o⟩,perm:=d,rsd:=b4.off b1 a ht.1,tq:=h.tq}⟩
theorem LuS.ownA (h:LuS w g m e A n cA B k cB D l cD x0 x1 x2 qs):∀q,(Value.slice A n cA).ownBlock=some q->g<=q:=λq e9=>(h.rows.at_ e9).1
theorem LuS.ownB (h:LuS w g m e A n cA B k cB D l cD x0 x1 x2 qs):∀q,(Value.slice B k cB).ownBlock=some q->g<=q:=λq e9=>(h.atB e9).1
theorem LuS.ownD (h:LuS w g m e A n cA B k cB D l cD x0 x1 x2 qs):∀q,(Value.slice D l cD).ownBlock=some q->g<=q:=λq e9=>(h.atD e9).1
end
theorem LuS.new {b2:Bool}{A2 E2:oA9}{n2 c2 k2 f2:Nat}(w:World)(m:Nat)(h2:zaf w 1 b2 A2 n2 c2 E2 k2 f2):LuS (w.alloc (.cells #[.slice none 0 0,.slice none 0 0,.slice none 0 0,.bool b2,.slice A2 n2 c2,.slice E2 k2 f2] 142)) w.heap.size m ⟨[],[],[],1⟩ none 0 0 none 0 0 none 0 0 (.bool b2) (.slice A2 n2 c2) (.slice E2 k2 f2) []:=by
 obtain⟨hb,hk,-⟩:=zax w 142 #[.slice none 0 0,.slice none 0 0,.slice none 0 0,.bool b2,.slice A2 n2 c2,.slice E2 k2 f2];exact{blk:=hk,hn:=rfl,hk:=rfl,hl:=rfl,rows:=zdb.nil _ _ _,times:=⟨[],zcc.nil _ _ _⟩,perm:=zde.nil _ _,rsd:=RV.of (h2.below hb),tq:=λq h=>by simp [Value.ownBlock] at h}
def luP (M:List (List Rat))(i:Nat):LSt:=⟨zcb (M.take i),(M.take i).map zao,List.range i,zbJ (M.take i)⟩
theorem luP_all {M:List (List Rat)}{n:Nat}(h:M.length=n):luP M n=luS M:=by
 unfold luP luS;rw [List.take_of_length_le om9,h]
theorem zqJ {M:List (List Rat)}{i:Nat}(h:i<M.length):(M.take (i+1)).map zao=(M.take i).map zao++[zao (M.getD i [])]:=by
 rw [List.take_succ_eq_append_getElem h,List.map_append,List.getD_eq_getElem?_getD,List.getElem?_eq_getElem h];rfl
theorem zig {P:Program}{Pc:Value->Prop}{w:World}{y:Array Oper}{rest:List Oper}{o:Oper}{a:Act}{Q:Exit->Act->World->Prop}(C:o.guard=none)(s x:Operand)(t:TypeId)
  (ho:o.op=.call {callee:=.builtin .append,args:=#[s,x],argTypes:=#[t,t]})
  (d:Nat) (e:TypeId) (i:TypeInfo) (z:Value) (size bytes:Nat) (ht:P.underlying t=some (.slice e)) (hi:P.info? e=some i) (hz:i.zero=some z)
  (l:i.size=size) (B:i.bytes=bytes) (F:z.cells.size=size) (hsz:0<size)
  (v:Value) (n:Nat) (xs:List Value) (hs:a.eval s=v) (r:w.ownsRow d e size v n xs)
  (ad:Addr) (m c:Nat) (b:List Value) (hx:a.eval x=.slice (some ad) m c) (hl:b.length=m*size) (k:∀j u,b[j]?=some u->w.cell? (ad.add j)=some u) (h1:∀u ∈ b,u.oneCell'=true)
  (A:n+m<=maxLen) (f:(n+m)*bytes<=140737488355328) (g:d<=w.heap.size)
  (hv:zfK Pc w v) (E:∀u ∈ z.cells.toList,Pc u) (D:∀u ∈ b,Pc u)
  (h:∀v' w',w'.ownsRow d e size v' (n+m) (xs++b)->w.grownBy w' v.ownBlock->(v'.ownBlock=v.ownBlock\/v'.ownBlock=some w.heap.size)->zfK Pc w' v'->wpList P y Q rest (a.put o.dst v') w'):
  wpList P y Q (o::rest) a w:=by
 refine wpList_plain C λK hK=>?_;obtain⟨v',w',hr,h2,h3,h4,h5⟩:=zkj (P:=P) w d t o.type e i z size bytes ht hi hz l B F hsz v n xs r ad m c b hl k h1 A f g hv E D;unfold Oper.wp execOp;simp only [ho,resolve,invoke,builtin,Sem.run_bind,Sem.run_pure,Result.andThen_ok,List.map_toArray,List.map_cons,List.map_nil,hs,hx,hr];exact hK _ _ (h v' w' h2 h3 h4 h5)
theorem slV_exL {m c q:Nat}{qs:List Nat}:slV m (exL 0 c q qs)=((slV m qs).set c (.slice (some ⟨qs.getD q 0,0,none⟩) m m)).set q (.slice (some ⟨qs.getD c 0,0,none⟩) m m):=by
 unfold slV exL;rw [List.map_set,List.map_set]
theorem zde.open {w:World}{b g l cD:Nat}{ld:List Nat}(h:zde w b (.slice (some ⟨g,0,none⟩) l cD) ld):∃a:Array Value,b<=g/\l=ld.length/\Blk w g 3 a/\l<=cD/\cD<=maxLen/\a.size=cD/\a.toList.take l=ldV ld/\∀u ∈ a.toList,zih u:=by
 rcases h.own.2 with⟨e,_⟩|⟨g',cap,a,e1,e2,e3,e4,e5,e6,e7⟩
 ·cases e
 ·injection e1 with a1 a2 a3;injection a1 with a1;injection a1 with a1;subst a1 a2 a3;obtain⟨c,s,h1,h2⟩:=h.pr g rfl;have hc:c=a:=by rw [e3] at h1;injection h1 with h1;injection h1 with h1 _;exact h1.symm
  subst hc;exact⟨c,e2,rfl,e3,e4,e5,om9,by rw [<-e7,Nat.mul_one],h2⟩
theorem zde.put {w:World}{a g l cD i x:Nat}{ld:List Nat}(h:zde w a (.slice (some ⟨g,0,none⟩) l cD) ld)(hi:i<l):zde (w.setCell ⟨g,i,none⟩ (.int .i64 (x:Int))) a (.slice (some ⟨g,0,none⟩) l cD) (ld.set i x):=by
 obtain⟨cur,h1,h2,h3,h4,h5,h6,h7,h8⟩:=h.open;have hk:=h3.set_ i (.int .i64 (x:Int));refine⟨⟨by unfold ldV;rw [List.length_map,Nat.mul_one],.inr ⟨g,cD,_,by rw [List.length_set,<-h2],h1,hk,by rw [List.length_set,<-h2];exact h4,h5,by simp;exact h6,?_⟩⟩,λq e=>?_⟩
 ·rw [List.length_set,<-h2,Nat.mul_one,Array.toList_setIfInBounds,List.take_set,h7];unfold ldV;rw [List.map_set]
 ·simp [Value.ownBlock] at e;subst e;refine⟨_,_,hk,λu hu=>?_⟩;rw [Array.toList_setIfInBounds] at hu;rcases List.mem_or_eq_of_mem_set hu with hu|rfl
  ·exact h8 u hu
  ·exact⟨_,rfl⟩
theorem zde.ready {w:World}{a g l cD i:Nat}{ld:List Nat}(h:zde w a (.slice (some ⟨g,0,none⟩) l cD) ld)(hi:i<l):w.cell? ⟨g,i,none⟩=some (.int .i64 (ld.getD i 0:Nat))/\w.frozen? ⟨g,i,none⟩=false:=by
 obtain⟨cur,h1,h2,h3,h4,h5,h6,h7,h8⟩:=h.open;refine⟨?_,h3.frozen _⟩;have hc:=h.own.cells (g:=g) rfl i (.int .i64 (ld.getD i 0:Nat)) (by unfold ldV;rw [List.getElem?_map,List.getD_eq_getElem?_getD,List.getElem?_eq_getElem om9];rfl);rw [zar] at hc;exact hc
section
variable {w:World}{g m:Nat}{e:LSt}{n cA:Nat}{k cB:Nat}{l cD:Nat}{A B D:oA9}{x0 x1 x2:Value}{qs:List Nat}{c q:Nat}
theorem LuS.rowAt {gA:Nat}(h:LuS w g m e (some ⟨gA,0,none⟩) n cA B k cB D l cD x0 x1 x2 qs){i:Nat}(hi:i<n):w.cell? ⟨gA,i,none⟩=some (.slice (some ⟨qs.getD i 0,0,none⟩) m m)/\w.frozen? ⟨gA,i,none⟩=false/\zaI w (qs.getD i 0) m (e.S.getD i []):=by
 have hn:=h.hn;have hl:=h.rows.len;obtain⟨_,cs,hk,_⟩:=h.rows.at_ (q:=gA) rfl;have hc:=h.rows.own.cells (g:=gA) rfl i (.slice (some ⟨qs.getD i 0,0,none⟩) m m) (by
  unfold slV;rw [List.getElem?_map,List.getD_eq_getElem?_getD,List.getElem?_eq_getElem om9];rfl)
 rw [zar] at hc;exact⟨hc,hk.frozen _,h.rows.row i om9⟩
theorem LuS.exA {gA:Nat}(h:LuS w g m e (some ⟨gA,0,none⟩) n cA B k cB D l cD x0 x1 x2 qs)(hc:c<n)(hq:q<n)(j:c≠q):
  (w.setCell ⟨gA,c,none⟩ (.slice (some ⟨qs.getD q 0,0,none⟩) m m)).cell? ⟨gA,q,none⟩=some (.slice (some ⟨qs.getD q 0,0,none⟩) m m)/\(w.setCell ⟨gA,c,none⟩ (.slice (some ⟨qs.getD q 0,0,none⟩) m m)).frozen? ⟨gA,q,none⟩=false/\
  LuS ((w.setCell ⟨gA,c,none⟩ (.slice (some ⟨qs.getD q 0,0,none⟩) m m)).setCell ⟨gA,q,none⟩ (.slice (some ⟨qs.getD c 0,0,none⟩) m m)) g m {e with S:=exL [] c q e.S} (some ⟨gA,0,none⟩) n cA B k cB D l cD x0 x1 x2 (exL 0 c q qs):=by
 have hn:=h.hn;have hl:=h.rows.len;obtain⟨c1,_,_⟩:=h.rowAt hc;obtain⟨c2,_,_⟩:=h.rowAt hq;rcases h.rows.own.2 with⟨e9,_⟩|⟨g',cap,cur,e1,e2,e3,e4,e5,e6,e7⟩
 ·cases e9
 ·injection e1 with a1 a2 a3;injection a1 with a1;injection a1 with a1;subst a1 a3;have a:=Blk.set_ e3 c (.slice (some ⟨qs.getD q 0,0,none⟩) m m);have hk2:=a.set_ q (.slice (some ⟨qs.getD c 0,0,none⟩) m m);have ht:=(zaK.set_ gA c w (.slice (some ⟨qs.getD q 0,0,none⟩) m m)).trans (zaK.set_ gA q _ (.slice (some ⟨qs.getD c 0,0,none⟩) m m));obtain⟨b1,b2,b3,b4,b5⟩:=h.turnA (q:=gA) rfl ht;obtain⟨d,s9,q1,q2⟩:=h.rows.sl gA rfl;have f:d=cur:=by rw [e3] at q1;injection q1 with q1;injection q1 with q1 _;exact q1.symm
  subst f;refine⟨?_,a.frozen _,?_⟩
  ·rw [a.cell,Array.getElem?_setIfInBounds_ne j,<-Blk.cell e3];exact c2
  ·have b:=zji (0:Nat) (r:=c) (q:=q) (L:=qs) om9 om9;exact {
    blk:=b1
    hn:=by show(exL [] c q e.S).length=n;rw [zdh];exact hn
    hk:=h.hk
    hl:=h.hl
    rows:={
     own:=⟨by show(slV m (exL 0 c q qs)).length=(exL [] c q e.S).length*1;unfold slV;rw [List.length_map,zdh,zdh,hl,Nat.mul_one],.inr ⟨gA,cA,_,by show _=Value.slice _ (exL [] c q e.S).length _;rw [zdh,hn],e2,hk2,by show(exL [] c q e.S).length<=_;rw [zdh];exact e4,e5,by simp;simpa using e6,by
      show _=_;rw [zdh,slV_exL,Array.toList_setIfInBounds,Array.toList_setIfInBounds,List.take_set,List.take_set,e7]⟩⟩
     sl:=λq9 e9=>by
      simp [Value.ownBlock] at e9;subst e9;refine⟨_,_,hk2,λu hu=>?_⟩;rw [Array.toList_setIfInBounds,Array.toList_setIfInBounds] at hu;rcases List.mem_or_eq_of_mem_set hu with hu|rfl
      ·rcases List.mem_or_eq_of_mem_set hu with hu|rfl
       ·exact q2 u hu
       ·exact⟨_,_,_,rfl⟩
      ·exact⟨_,_,_,rfl⟩
     len:=by show(exL 0 c q qs).length=(exL [] c q e.S).length;rw [zdh,zdh];exact hl
     row:=λi hi=>by
      have hi:i<(exL [] c q e.S).length:=hi;rw [zdh] at hi;show zaI _ ((exL 0 c q qs).getD i 0) m ((exL [] c q e.S).getD i []);rw [zgQ 0 om9 om9,zgQ [] om9 om9];by_cases h1:i=c
      ·rw [if_pos h1,if_pos h1];exact b5 q om9
      ·rw [if_neg h1,if_neg h1];by_cases h2:i=q
       ·rw [if_pos h2,if_pos h2];exact b5 c om9
       ·rw [if_neg h2,if_neg h2];exact b5 i hi
     lo:=λq9 h9=>h.rows.lo q9 (b.mem_iff.1 h9)
     nd:=b.nodup_iff.2 h.rows.nd}
    times:=b2
    perm:=b3
    rsd:=b4
    tq:=λq9 h9 h8=>h.tq q9 h9 (b.mem_iff.1 h8)}
theorem LuS.timeAt {ad:Addr}(h:LuS w g m e A n cA (some ad) k cB D l cD x0 x1 x2 qs){i:Nat}(hi:i<k):ad=⟨ad.block,0,none⟩/\∃(b:Bool) (B:oA9) (p d:Nat) (F:oA9) (u v:Nat),w.cell? ⟨ad.block,i*3,none⟩=some (.bool b)/\w.cell? ⟨ad.block,i*3+1,none⟩=some (.slice B p d)/\w.cell? ⟨ad.block,i*3+2,none⟩=some (.slice F u v)/\zaf w (e.T.getD i 0) b B p d F u v:=by
 obtain⟨us,hu⟩:=h.times;obtain⟨cur,h1,_⟩:=hu.open;refine⟨h1,?_⟩;obtain⟨A',c',e1,hv,_⟩:=hu.shape;have hk:=h.hk;injection e1 with a1 a2 a3;subst a1;obtain⟨ae,b,B,p,d,F,u,v,e9,_,q0,q1,q2,hx⟩:=hv.num i _ (zbi (d:=0) om9);injection e9 with e9;subst e9;rw [h1,zar] at q0 q1 q2;exact⟨b,B,p,d,F,u,v,q0,q1,q2,hx⟩
theorem LuS.timePut {ad:Addr}(h:LuS w g m e A n cA (some ad) k cB D l cD x0 x1 x2 qs){i:Nat}(hi:i<k){x:Rat}{b:Bool}{B F:oA9}{p d u v:Nat}(hx:zaf w x b B p d F u v):
  LuS (((w.setCell ⟨ad.block,i*3,none⟩ (.bool b)).setCell ⟨ad.block,i*3+1,none⟩ (.slice B p d)).setCell ⟨ad.block,i*3+2,none⟩ (.slice F u v)) g m {e with T:=e.T.set i x} A n cA (some ad) k cB D l cD x0 x1 x2 qs/\zaf (((w.setCell ⟨ad.block,i*3,none⟩ (.bool b)).setCell ⟨ad.block,i*3+1,none⟩ (.slice B p d)).setCell ⟨ad.block,i*3+2,none⟩ (.slice F u v)) x b B p d F u v/\
  ∀{y:Rat} {b':Bool} {B' F':oA9} {p' d' u' v':Nat},zaf w y b' B' p' d' F' u' v'->zaf (((w.setCell ⟨ad.block,i*3,none⟩ (.bool b)).setCell ⟨ad.block,i*3+1,none⟩ (.slice B p d)).setCell ⟨ad.block,i*3+2,none⟩ (.slice F u v)) y b' B' p' d' F' u' v':=by
 obtain⟨us,hu⟩:=h.times;obtain⟨o,f⟩:=hu.put zak hi hx;have ht:=((zaK.set_ ad.block (i*3) w (.bool b)).trans (zaK.set_ ad.block (i*3+1) _ (.slice B p d))).trans (zaK.set_ ad.block (i*3+2) _ (.slice F u v));have c:(Value.slice (some ad) k cB).ownBlock=some ad.block:=by
  obtain⟨cur,h1,_⟩:=hu.open;rw [h1];rfl
 obtain⟨b1,b2,b3,b4⟩:=h.turnB c ht;obtain⟨_,cs,a,j⟩:=h.atB c;exact⟨{blk:=b1,hn:=h.hn,hk:=by show(e.T.set i x).length=k;rw [List.length_set];exact h.hk,hl:=h.hl,rows:=b2,times:=⟨o,f⟩,perm:=b3,rsd:=b4,tq:=h.tq},zaz a (zaG j) ht.1 hx,λhy=>zaz a (zaG j) ht.1 hy⟩
theorem LuS.permPut {gD:Nat}(h:LuS w g m e A n cA B k cB (some ⟨gD,0,none⟩) l cD x0 x1 x2 qs){i x:Nat}(hi:i<l):LuS (w.setCell ⟨gD,i,none⟩ (.int .i64 (x:Int))) g m {e with P:=e.P.set i x} A n cA B k cB (some ⟨gD,0,none⟩) l cD x0 x1 x2 qs:=by
 obtain⟨b1,b2,b3,b4⟩:=h.turnD (q:=gD) rfl (zaK.set_ gD i w (.int .i64 (x:Int)));exact{blk:=b1,hn:=h.hn,hk:=h.hk,hl:=by show(e.P.set i x).length=l;rw [List.length_set];exact h.hl,rows:=b2,times:=b3,perm:=h.perm.put hi,rsd:=b4,tq:=h.tq}
theorem LuS.newRd {r:Rat}{z0 z1 z2:Value}(h:LuS w g m e A n cA B k cB D l cD x0 x1 x2 qs)(hp:RV w r z0 z1 z2):LuS (((w.setCell ⟨g,3,none⟩ z0).setCell ⟨g,4,none⟩ z1).setCell ⟨g,5,none⟩ z2) g m {e with rd:=r} A n cA B k cB D l cD z0 z1 z2 qs:=by
 have ht:=((zaK.set_ g 3 w z0).trans (zaK.set_ g 4 _ z1)).trans (zaK.set_ g 5 _ z2);obtain⟨b1,b2,b3,b4⟩:=h.store (A':=A) (n':=n) (cA':=cA) (B':=B) (k':=k) (cB':=cB) (D':=D) (l':=l) (cD':=cD) ht;exact{blk:=((h.blk.set_ 3 z0).set_ 4 z1).set_ 5 z2,hn:=h.hn,hk:=h.hk,hl:=h.hl,rows:=b1,times:=b2,perm:=b3,rsd:=hp.off h.blk h.nok ht.1,tq:=h.tq}
end
