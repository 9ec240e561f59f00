/- What this claim leans on. -/
import Derived.Test.YtgigccjiblaefaaDoorSJ8Add
import Derived.Test.YtgigccjiblaefaaDoorSJ8Ord
namespace Go.Proofs.YtgigccjiblaefaaDoor
open Go Go.RowKit
open Go.ChangeShapes Go.WideShapes Go.ChangeAt
section
variable {H : Type} {enc : TypeId × Value → H} {P : Program}
theorem post_of_below {f : Func} {s : ChangeSpec} {apart fresh handsOn again : Bool} {W W' : World} {args : Array Value} {v : Value} {ds gs : List (DataW H)} {before pa pv : List MemPlace}
  (hW : DataW.Whole enc P f.params.toList s.vars apart W args.toList ds gs before)
  (hres : ∀ (b : Nat) (sp : Nat → Bool) (hd : Bool), DataW.TrodAll enc P W' b sp hd f.resultTypes.toList (v.resultList f.resultTypes.size) (s.fn H (ds ++ gs)).results [])
  (hargs : ∀ sp : Nat → Bool, (∀ p ∈ before, sp p.block = true) → DataW.TrodAll enc P W' 0 sp true f.params.toList args.toList (s.fn H (ds ++ gs)).args pa)
  (hvars : ∀ sp : Nat → Bool, (∀ p ∈ before, sp p.block = true) → DataW.TrodVars enc P W' sp s.vars (s.fn H (ds ++ gs)).vars pv)
  (hps : before = pa ++ pv) (hb : Below W.heap.size W W')
  (hok : ∀ (j : Nat) (t : TypeId) (r : Value), f.resultTypes[j]? = some t → (v.resultList f.resultTypes.size)[j]? = some r → Value.okWide P W' .any 0 t r) :
  s.post enc P f apart fresh handsOn again W args v W' := by
 have hlt : ∀ p ∈ before, p.block < W.heap.size := fun p hp => hW.lt p hp
 have hold : ∀ p ∈ before, (fun b => decide (b < W.heap.size)) p.block = true := fun p hp => by simpa using hlt p hp
 refine ⟨ds, gs, before, [], pa, pv, hW, hres _ _ _, hargs _ hold, hvars _ hold, World.keptBut_mono (fun p hp => ⟨hp, ?_⟩) (hb.frame (· ∈ before)), fun _ => ?_⟩
 ·rw [hps, List.mem_append] at hp
  exact Or.inr hp
 ·obtain ⟨_, _, _, _, _, hz, hn⟩ := hW
  refine ⟨hok, _, _, ([] ++ pa) ++ pv, ⟨[] ++ pa, pv, trodAll_append (hargs _ (fun _ _ => rfl)) (hres _ _ _), hvars _ (fun _ _ => rfl), rfl, ?_, ?_⟩, ?_⟩
  ·intro b off hp
   have hin : MemPlace.cell b off ∈ before := by rw [hps]; simpa using hp
   rw [hb.frozen (hlt _ hin)]
   exact hz b off hin
  ·intro ha
   have := hn ha
   rw [hps] at this
   simpa using this
  ·intro p hp _
   rw [hps]
   simpa using hp
end
end Go.Proofs.YtgigccjiblaefaaDoor
namespace Go.Proofs.YtgigccjiblaefaaDoor
open Go Go.RowKit
set_option linter.unusedVariables false
theorem ratC {T : World → Prop} {M : Nat → Prop} (hTT : ∀ w, T w → zal w) (h0 : M 0 → RatG0 T) (h1 : M 1 → RatG1 T) : RatC T M where
 g0 := h0
 g1 := h1
 new p q b b' A D n m c d w hT hA hD hn hm h0 := ziP p q b A n c b' D m d w (hTT w hT) hA hD hn hm h0
 newNo p q b b' A D n m c d w hT hA hD hn hm h0 := zfa p q b A n c b' D m d w (hTT w hT) hA hD hn hm h0
 of p q w hT h1 h2 h3 h4 h0 := rat_of p q w (hTT w hT) h1 h2 h3 h4 h0
 ofNo p q w hT h1 h2 h0 := zjF p q w (hTT w hT) h1 h2 (by omega) (by omega) h0
 num r b A n c E k f w hT h hf := rat_num r b A n c E k f w (hTT w hT) h hf
 den r b A n c E k f w hT h hf := zgE r b A n c E k f w (hTT w hT) h hf
 sign r b A n c E k f w hT h hf := zfm r b A n c E k f w (hTT w hT) h hf
 zero r b A n c E k f w hT h hf := zbe r b A n c E k f w (hTT w hT) h hf
 isInt r b A n c E k f w hT h hf := zbz r b A n c E k f w (hTT w hT) h hf
 bits r b A n c E k f w hT h hf := rat_bits r b A n c E k f w (hTT w hT) h hf
 neg r b A n c E k f w hT h hf := ziB r b A n c E k f w (hTT w hT) h hf
 floor r b A n c E k f w hT h hf := zfK r b A n c E k f w (hTT w hT) h hf
 ceil r b A n c E k f w hT h hf := rat_ceil r b A n c E k f w (hTT w hT) h hf
 inv r b A n c E k f w hT h hf h0 := rat_inv r b A n c E k f w (hTT w hT) h hf h0
 invNo r b A n c E k f w hT h hf h0 := ziw r b A n c E k f w (hTT w hT) h hf h0
 add r s b b' A A' n n' c c' E E' k k' f f' w hT h h' hf hf' := ziN r s b A n c E k f b' A' n' c' E' k' f' w (hTT w hT) h h' hf hf'
 cmp r s b b' A A' n n' c c' E E' k k' f f' w hT h h' hf hf' := rat_cmp r s b A n c E k f b' A' n' c' E' k' f' w (hTT w hT) h h' hf hf'
 same r s b b' A A' n n' c c' E E' k k' f f' w hT h h' hf hf' := rat_same r s b A n c E k f b' A' n' c' E' k' f' w (hTT w hT) h h' hf hf'
end Go.Proofs.YtgigccjiblaefaaDoor
