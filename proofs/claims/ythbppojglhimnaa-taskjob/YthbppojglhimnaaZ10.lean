/- Tasks, rings held against themselves. -/
import Derived.Test.YthbppojglhimnaaZ9
import Derived.Laws.StructEq
namespace Go.Proofs.Ythbppojglhimnaa
open Go.RowKit

set_option maxHeartbeats 4000000 in
set_option maxRecDepth 100000 in
theorem tk_self (id ec et ex em ek ee p nx a n : Int) (o : Bool) (jn r u : Int) (b : Bool) (c d x hn hb : Int) (kp : Bool) (w : World) : (binOp .eql 30 (.agg #[.int .i64 id, .int .i64 ec, .int .i64 et, .int .i64 ex, .int .i64 em, .int .i64 ek, .int .i64 ee, .int .i64 p, .int .i64 nx, .int .i64 a, .int .i64 n, .bool o, .int .i64 jn, .int .i64 r, .int .i64 u, .bool b, .int .i64 c, .int .i64 d, .int .i64 x, .int .i64 hn, .int .u64 hb, .bool kp]) (.agg #[.int .i64 id, .int .i64 ec, .int .i64 et, .int .i64 ex, .int .i64 em, .int .i64 ek, .int .i64 ee, .int .i64 p, .int .i64 nx, .int .i64 a, .int .i64 n, .bool o, .int .i64 jn, .int .i64 r, .int .i64 u, .bool b, .int .i64 c, .int .i64 d, .int .i64 x, .int .i64 hn, .int .u64 hb, .bool kp])).run Try.prog w = .ok (.bool true) w := by
  simp [go_sem]
theorem ring_self (hn hb : Int) (w : World) : (binOp .eql 28 (.agg #[.int .i64 hn, .int .u64 hb]) (.agg #[.int .i64 hn, .int .u64 hb])).run Try.prog w = .ok (.bool true) w := by
  simp [go_sem]
end Go.Proofs.Ythbppojglhimnaa
