/- What this claim leans on. -/
import Derived.Test.YtgigccjiblaefaaDoorLJ8Add
import Derived.Test.YtgigccjiblaefaaDoorLJ8Mul
import Derived.Test.YtgigccjiblaefaaDoorLJ8Ord
namespace Go.Proofs.YtgigccjiblaefaaDoor
open Go Go.RowKit
set_option linter.unusedVariables false
theorem ratC {T : World → Prop} (hTT : ∀ w, T w → zan w) : RatC T where
 new p q b b' A D n m c d w hT hA hD hn hm h0 := ziE p q b A n c b' D m d w (hTT w hT) hA hD hn hm h0
 newNo p q b b' A D n m c d w hT hA hD hn hm h0 := zfa p q b A n c b' D m d w (hTT w hT) hA hD hn hm h0
 of p q w hT h1 h2 h3 h4 h0 := rat_of p q w (hTT w hT) h1 h2 h3 h4 h0
 ofNo p q w hT h1 h2 h0 := zjI p q w (hTT w hT) h1 h2 (by omega) (by omega) h0
 num r b A n c E k f w hT h hf := rat_num r b A n c E k f w (hTT w hT) h hf
 den r b A n c E k f w hT h hf := zgm r b A n c E k f w (hTT w hT) h hf
 sign r b A n c E k f w hT h hf := zeJ r b A n c E k f w (hTT w hT) h hf
 zero r b A n c E k f w hT h hf := zaK r b A n c E k f w (hTT w hT) h hf
 isInt r b A n c E k f w hT h hf := zaV r b A n c E k f w (hTT w hT) h hf
 bits r b A n c E k f w hT h hf := rat_bits r b A n c E k f w (hTT w hT) h hf
 neg r b A n c E k f w hT h hf := ziO r b A n c E k f w (hTT w hT) h hf
 floor r b A n c E k f w hT h hf := zfz r b A n c E k f w (hTT w hT) h hf
 ceil r b A n c E k f w hT h hf := rat_ceil r b A n c E k f w (hTT w hT) h hf
 inv r b A n c E k f w hT h hf h0 := rat_inv r b A n c E k f w (hTT w hT) h hf h0
 invNo r b A n c E k f w hT h hf h0 := zhZ r b A n c E k f w (hTT w hT) h hf h0
 add r s b b' A A' n n' c c' E E' k k' f f' w hT h h' hf hf' := rat_add r s b A n c E k f b' A' n' c' E' k' f' w (hTT w hT) h h' hf hf'
 mul r s b b' A A' n n' c c' E E' k k' f f' w hT h h' hf hf' := rat_mul r s b A n c E k f b' A' n' c' E' k' f' w (hTT w hT) h h' hf hf'
 cmp r s b b' A A' n n' c c' E E' k k' f f' w hT h h' hf hf' := rat_cmp r s b A n c E k f b' A' n' c' E' k' f' w (hTT w hT) h h' hf hf'
 same r s b b' A A' n n' c c' E E' k k' f f' w hT h h' hf hf' := rat_same r s b A n c E k f b' A' n' c' E' k' f' w (hTT w hT) h h' hf hf'
end Go.Proofs.YtgigccjiblaefaaDoor
