import Derived.Test.YtpdhjokbhofglaaCelAsk
import Derived.Test.YtpdhjokbhofglaaCelLog
namespace Go.Proofs.Ytpdhjokbhofglaa
open Go.RowKit

section
variable {w0 w : World} {mb : Nat} {s : Mm}
theorem nask_cell (h : MN w0 w mb s) (q : Ac) (hc : s.there (pl q.c : Int) = false) :
    Calls Try.prog 7 #[.pointer (some ⟨mb, 0, none⟩), .agg #[.int .i64 q.kind, .int .i64 q.c, .int .i64 q.x, .int .i64 q.y]] w fun e w' => e = .returned (.tuple #[.int .i64 0, .int .i64 30]) ∧ MN w0 w' mb s ∧ Keeps (fun _ => False) w w' := by
  have hn := h
  obtain ⟨F, h, hF, hk⟩ := h
  refine (asked_cell h q hc).mono ?_
  rintro e w' ⟨rfl, k⟩
  exact ⟨rfl, hn.new k, k⟩
theorem nask_closed (h : MN w0 w mb s) (q : Ac) (hc : s.there (pl q.c : Int) = true) (hf : s.free = false) :
    Calls Try.prog 7 #[.pointer (some ⟨mb, 0, none⟩), .agg #[.int .i64 q.kind, .int .i64 q.c, .int .i64 q.x, .int .i64 q.y]] w fun e w' => e = .returned (.tuple #[.int .i64 0, .int .i64 31]) ∧ MN w0 w' mb s ∧ Keeps (fun _ => False) w w' := by
  have hn := h
  obtain ⟨F, h, hF, hk⟩ := h
  refine (asked_closed h q hc hf).mono ?_
  rintro e w' ⟨rfl, k⟩
  exact ⟨rfl, hn.new k, k⟩
theorem nbegin_not (h : MN w0 w mb s) (st th : Int) (hm : s.may st th = false) :
    Calls Try.prog 6 #[.pointer (some ⟨mb, 0, none⟩), .int .i64 st, .int .i64 th] w fun e w' => e = .returned (.int .i64 32) ∧ w' = w := by
  obtain ⟨F, h, _, _⟩ := h
  exact begin_not h st th hm
theorem nlog (h : MN w0 w mb s) (hlog : s.log.length * 56 ≤ 140737488355328) :
    Calls Try.prog 8 #[.pointer (some ⟨mb, 0, none⟩)] w fun e w' => ∃ v, e = .returned v ∧ w'.ownsRow w.heap.size 39 7 v s.log.length (fl rcells s.log) ∧ MN w0 w' mb s ∧ Keeps (fun _ => False) w w' := by
  have hn := h
  obtain ⟨F, h, hF, hk⟩ := h
  refine (log_any h hlog).mono ?_
  rintro e w' ⟨v, rfl, ho, k⟩
  exact ⟨v, rfl, ho, hn.new k, k⟩
end
theorem owns_len {w : World} {base e size n : Nat} {v : Value} {xs : List Value} (h : w.ownsRow base e size v n xs) : ∃ a cap, v = .slice a n cap := by
  rcases h.2 with ⟨rfl, h0⟩ | ⟨g, cap, cur, rfl, _⟩
  · exact ⟨none, 0, by rw [h0]⟩
  · exact ⟨_, _, rfl⟩

end Go.Proofs.Ytpdhjokbhofglaa
