/-
  A region that draws its order and makes two blocks besides: whatever order was picked, the tail and all behind it are walked once, for whatever two addresses.
-/
import Derived.Test.YtbjckcjfambpoaaHeT
namespace Go.Proofs.Ytbjckcjfambpoaa
set_option linter.unusedSimpArgs false
set_option linter.unusedVariables false
set_option maxRecDepth 100000

theorem headS_rest {P : Program} {S : World → Prop} {Q : Exit → Act → World → Prop} {l : List Oper} {n f : Nat} {listed : Array Bool} {a : Act} {w : World} (J : Nat → Nat → World → Prop) (T : Nat → Nat → Array Value)
    (rest : ∀ b c W, J b c W → wpList P l.toArray Q (l.drop n) ⟨T b c, []⟩ W)
    (walk : (∀ b c W, J b c W → wpList P l.toArray Q (l.drop n) ⟨T b c, []⟩ W) → headS P .any l.toArray Q S n (TailL P l.toArray l Q n) f listed a w) :
    headS P .any l.toArray Q S n (TailL P l.toArray l Q n) f listed a w := walk rest
end Go.Proofs.Ytbjckcjfambpoaa
