/- What this claim leans on. -/
import Derived.Test.YtgigccjiblaefaaGreatDoorAJ8Add
import Derived.Test.YtgigccjiblaefaaGreatDoorAJ8Mul
import Derived.Test.YtgigccjiblaefaaGreatDoorAJ8Ord
namespace Go.Proofs.YtgigccjiblaefaaGreatDoor
open Go Go.RowKit
set_option linter.unusedVariables false
theorem ratC {T : World → Prop} (hTT : ∀ w, T w → zan w) : RatC T where
 new p q b b' A D n m c d w hT hA hD hn hm h0 := ziL p q b A n c b' D m d w (hTT w hT) hA hD hn hm h0
 newNo p q b b' A D n m c d w hT hA hD hn hm h0 := zeU p q b A n c b' D m d w (hTT w hT) hA hD hn hm h0
 of p q w hT h1 h2 h3 h4 h0 := rat_of p q w (hTT w hT) h1 h2 h3 h4 h0
 ofNo p q w hT h1 h2 h0 := zjx p q w (hTT w hT) h1 h2 (by omega) (by omega) h0
 int z w hT h1 h2 := rat_int z w (hTT w hT) h1 h2
 whole z b A n c w hT h hn := zjN z b A n c w (hTT w hT) h hn
 num r b A n c E k f w hT h hf := rat_num r b A n c E k f w (hTT w hT) h hf
 den r b A n c E k f w hT h hf := zeK r b A n c E k f w (hTT w hT) h hf
 sign r b A n c E k f w hT h hf := zfw r b A n c E k f w (hTT w hT) h hf
 zero r b A n c E k f w hT h hf := zaP r b A n c E k f w (hTT w hT) h hf
 isInt r b A n c E k f w hT h hf := zbg r b A n c E k f w (hTT w hT) h hf
 bits r b A n c E k f w hT h hf := rat_bits r b A n c E k f w (hTT w hT) h hf
 neg r b A n c E k f w hT h hf := zgs r b A n c E k f w (hTT w hT) h hf
 abs r b A n c E k f w hT h hf := rat_abs r b A n c E k f w (hTT w hT) h hf
 floor r b A n c E k f w hT h hf := zfS r b A n c E k f w (hTT w hT) h hf
 ceil r b A n c E k f w hT h hf := rat_ceil r b A n c E k f w (hTT w hT) h hf
 inv r b A n c E k f w hT h hf h0 := zjk r b A n c E k f w (hTT w hT) h hf h0
 invNo r b A n c E k f w hT h hf h0 := zfd r b A n c E k f w (hTT w hT) h hf h0
 add r s b b' A A' n n' c c' E E' k k' f f' w hT h h' hf hf' := ziY r s b A n c E k f b' A' n' c' E' k' f' w (hTT w hT) h h' hf hf'
 sub r s b b' A A' n n' c c' E E' k k' f f' w hT h h' hf hf' := rat_sub r s b A n c E k f b' A' n' c' E' k' f' w (hTT w hT) h h' hf hf'
 mul r s b b' A A' n n' c c' E E' k k' f f' w hT h h' hf hf' := zjh r s b A n c E k f b' A' n' c' E' k' f' w (hTT w hT) h h' hf hf'
 cmp r s b b' A A' n n' c c' E E' k k' f f' w hT h h' hf hf' := zef r s b A n c E k f b' A' n' c' E' k' f' w (hTT w hT) h h' hf hf'
 min r s b b' A A' n n' c c' E E' k k' f f' w hT h h' hf hf' := rat_min r s b A n c E k f b' A' n' c' E' k' f' w (hTT w hT) h h' hf hf'
 max r s b b' A A' n n' c c' E E' k k' f f' w hT h h' hf hf' := rat_max r s b A n c E k f b' A' n' c' E' k' f' w (hTT w hT) h h' hf hf'
 same r s b b' A A' n n' c c' E E' k k' f f' w hT h h' hf hf' := rat_same r s b A n c E k f b' A' n' c' E' k' f' w (hTT w hT) h h' hf hf'
 div r s b b' A A' n n' c c' E E' k k' f f' w hT h h' hf hf' h0 := rat_div r s b A n c E k f b' A' n' c' E' k' f' w (hTT w hT) h h' hf hf' h0
 divNo r s b b' A A' n n' c c' E E' k k' f f' w hT h h' hf hf' h0 := ziE r s b A n c E k f b' A' n' c' E' k' f' w (hTT w hT) h h' hf hf' h0
end Go.Proofs.YtgigccjiblaefaaGreatDoor
