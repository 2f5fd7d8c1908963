import Derived.Test.YtdeiochjkbogpaaLocGL
import Derived.Test.YtdeiochjkbogpaaLocGS
namespace Go.Proofs.Ytdeiochjkbogpaa
open Go.RowKit
theorem steps_ok : StepsOk := fun hG hF hw hB hN hN1 ht hws hwl h4 hk => steps_g hG hF hw hB hN hN1 ht hws hwl h4 hk
theorem looks_any {w : World} (n : Int) (hn : I64 n) {a : Option Addr} {l : List Lk} (hl : LL w a l) (hq : ∀ q ∈ l, q.ok) (hln : l.length ≤ 9223372036854775807) (cap : Nat) :
    Calls Try.prog 3 #[.int .i64 n, .slice a l.length cap] w fun e w' => e = .returned (.bool true) ∧ Below w.heap.size w w' := looks_walk steps_ok n hn hl hq hln cap
end Go.Proofs.Ytdeiochjkbogpaa
