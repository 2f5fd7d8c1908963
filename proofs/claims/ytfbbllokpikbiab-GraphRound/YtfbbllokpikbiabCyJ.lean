import Derived.Test.YtfbbllokpikbiabCyG
import Derived.Test.YtfbbllokpikbiabCyH
namespace Go.Proofs.Ytfbbllokpikbiab
open Go.RowKit Go.Deep
theorem ground_any {w : World} (n : Int) (_ : I64 n) {a : Option Addr} {cap : Nat} {l : List Ed} (hl : EL w a l) (_ : a = none → cap = 0) (hlen : l.length ≤ 4398046510976) (v : Int) (_ : I64 v) : Calls Try.prog 3 #[.int .i64 n, .slice a l.length cap, .int .i64 v] w fun e w' => e = .returned (.bool true) ∧ Below w.heap.size w w' := by
  by_cases h0 : fltG n l = 0
  · by_cases hv : v < 0 ∨ n ≤ v
    · exact ground_out n hl hlen v h0 hv
    · obtain ⟨m, g, rfl, hm, rfl, hbl⟩ := good_eg h0
      obtain ⟨u, rfl⟩ : ∃ u : Nat, v = (u : Int) := ⟨v.toNat, by omega⟩
      rw [List.length_map] at hlen ⊢
      by_cases hr : Rch g u u
      · exact ground_yes hl hbl hm hlen u (by omega) hr
      · exact ground_no hl hbl hm hlen u (by omega) hr
  · exact ground_bad n hl hlen v h0
end Go.Proofs.Ytfbbllokpikbiab
