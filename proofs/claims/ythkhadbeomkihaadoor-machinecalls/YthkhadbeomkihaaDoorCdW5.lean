/-
  The contract of Get, and of the reference's Raw and Get.
-/
import Derived.Test.YthkhadbeomkihaaDoorCdW4
namespace Go.Proofs.YthkhadbeomkihaaDoor
set_option maxRecDepth 100000
open Go.RowKit
attribute [local go_sem ↓] Go.wp_at_zero Go.wp_at_succ

theorem ret_three {v : Value} {a b c d : Int} (h : a = c) (k : b = d) : Ending.returned (.tuple #[v, .int .i64 a, .int .i64 b]) = .returned (.tuple #[v, .int .i64 c, .int .i64 d]) := by rw [h, k]

/-- What Get answers of an instruction: it, or its error and the error's place. -/
def Cd.got (op a b c m : Int) : Value := if Cd.bad op a b c m = -1 then .tuple #[.agg #[.int .i64 op, .int .i64 a, .int .i64 b, .int .i64 c, .int .u64 m], .int .i64 0, .int .i64 0]
  else .tuple #[.agg #[.int .i64 0, .int .i64 0, .int .i64 0, .int .i64 0, .int .u64 0], .int .i64 (Cd.er (Cd.bad op a b c m)), .int .i64 (Cd.pl (Cd.bad op a b c m))]

end Go.Proofs.YthkhadbeomkihaaDoor
