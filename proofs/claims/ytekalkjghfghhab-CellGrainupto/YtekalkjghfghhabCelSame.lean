import Derived.Test.YtekalkjghfghhabCelAsk
import Derived.Test.YtekalkjghfghhabCelLog
namespace Go.Proofs.Ytekalkjghfghhab
open Go.RowKit

section
variable {w0 w : World} {mb : Nat} {s : Mm}
theorem nask_cell (h : MN w0 w mb s) (q : Ac) (hc : s.there (pl q.c : Int) = false) :
    Calls Try.prog 12 #[.pointer (some ⟨mb, 0, none⟩), .agg #[.int .i64 q.kind, .int .i64 q.c, .int .i64 q.x, .int .i64 q.y]] w fun e w' => e = .returned (.tuple #[.int .i64 0, .int .i64 30]) ∧ MN w0 w' mb s ∧ Keeps (fun _ => False) w w' := by
  have hn := h
  obtain ⟨F, h, hF, hk⟩ := h
  refine (asked_cell h q hc).mono ?_
  rintro e w' ⟨rfl, k⟩
  exact ⟨rfl, hn.new k, k⟩
theorem nask_closed (h : MN w0 w mb s) (q : Ac) (hc : s.there (pl q.c : Int) = true) (hf : s.free = false) :
    Calls Try.prog 12 #[.pointer (some ⟨mb, 0, none⟩), .agg #[.int .i64 q.kind, .int .i64 q.c, .int .i64 q.x, .int .i64 q.y]] w fun e w' => e = .returned (.tuple #[.int .i64 0, .int .i64 31]) ∧ MN w0 w' mb s ∧ Keeps (fun _ => False) w w' := by
  have hn := h
  obtain ⟨F, h, hF, hk⟩ := h
  refine (asked_closed h q hc hf).mono ?_
  rintro e w' ⟨rfl, k⟩
  exact ⟨rfl, hn.new k, k⟩
theorem nbegin_not (h : MN w0 w mb s) (st th : Int) (hm : s.may st th = false) :
    Calls Try.prog 10 #[.pointer (some ⟨mb, 0, none⟩), .int .i64 st, .int .i64 th] w fun e w' => e = .returned (.int .i64 32) ∧ w' = w := by
  obtain ⟨F, h, _, _⟩ := h
  exact begin_not h st th hm
theorem nlog (h : MN w0 w mb s) (hlog : s.log.length * 56 ≤ 140737488355328) :
    Calls Try.prog 14 #[.pointer (some ⟨mb, 0, none⟩)] w fun e w' => ∃ v, e = .returned v ∧ w'.ownsRow w.heap.size 39 7 v s.log.length (fl rcells s.log) ∧ MN w0 w' mb s ∧ Keeps (fun _ => False) w w' := by
  have hn := h
  obtain ⟨F, h, hF, hk⟩ := h
  refine (log_any h hlog).mono ?_
  rintro e w' ⟨v, rfl, ho, k⟩
  exact ⟨v, rfl, ho, hn.new k, k⟩
end
theorem owns_len {w : World} {base e size n : Nat} {v : Value} {xs : List Value} (h : w.ownsRow base e size v n xs) : ∃ a cap, v = .slice a n cap := by
  rcases h.2 with ⟨rfl, h0⟩ | ⟨g, cap, cur, rfl, _⟩
  · exact ⟨none, 0, by rw [h0]⟩
  · exact ⟨_, _, rfl⟩

set_option maxHeartbeats 3200000 in
set_option maxRecDepth 1000000 in
/-- The three cells hold what is said, the log has so many rows. -/
theorem same_any {w0 w : World} {mb : Nat} {s : Mm} (h : MN w0 w mb s) (hl : s.cells.length = 3) (x0 x1 x2 : Int) (h0 : (ca s.cells 0).2 = x0) (h1 : (ca s.cells 1).2 = x1) (h2 : (ca s.cells 2).2 = x2) (hlog : s.log.length * 56 ≤ 140737488355328) :
    Calls Try.prog 17 #[.pointer (some ⟨mb, 0, none⟩), .agg #[.int .i64 x0, .int .i64 x1, .int .i64 x2], .int .i64 (s.log.length : Int)] w fun e w' => e = .returned (.bool true) ∧ MN w0 w' mb s := by
  obtain ⟨x, hx⟩ : ∃ x : Nat → Int, x = fun i => if i = 0 then x0 else if i = 1 then x1 else x2 := ⟨_, rfl⟩
  have hxc : ∀ i, i < 3 → (ca s.cells i).2 = x i := fun i hi => by
    rcases i with _ | _ | _ | i
    · rw [hx]; exact h0
    · rw [hx]; exact h1
    · rw [hx]; exact h2
    · omega
  obtain ⟨W, hW⟩ : ∃ W, W = w.alloc (.cells #[.int .i64 x0, .int .i64 x1, .int .i64 x2] 36) := ⟨_, rfl⟩
  have KW : Keeps (fun _ => False) w W := by rw [hW]; exact (Keeps.refl _ w).alloc _
  have hb : ∀ i, i < 3 → W.cell? ⟨w.heap.size, i, none⟩ = some (.int .i64 (x i)) := fun i hi => by
    rw [hW, hx]
    rcases i with _ | _ | _ | i
    · simp
    · simp
    · simp
    · omega
  have HH : Hid (MN w0 W mb s) := h.new KW
  clear h0 h1 h2 hx h
  go_enter Try.func17, Try.ntmps17
  go_wp2_with fail
  rw [← hW]
  clear hW
  go_loopw [7] (fun iv wr => ∃ i : Nat, i ≤ 3 ∧ iv = .int .i64 i ∧ wr = W) (fun iv _ => 3 - (intOf iv).toNat)
  case atStart => exact ⟨0, by omega, rfl, rfl⟩
  case round =>
    obtain ⟨i, hi, rfl, rfl⟩ := hrel
    by_cases hlt : i < 3
    · have hiI : (i : Int) < 3 := by omega
      have P := npeek HH.out (c := i) (by omega)
      rw [hxc i hlt] at P
      have c := hb i hlt
      clear hb hxc
      generalize x i = xi at P c
      go_wp2_with (first | (go_at_call 11; refine (num_any _ _).mono ?_; rintro e w2 ⟨rfl, rfl⟩) | (go_at_call 16; refine P.mono ?_; clear P; rintro e wr ⟨rfl, rfl⟩))
      go_roundw
      case rel => exact ⟨i + 1, by omega, by go_num, trivial⟩
      case measure => simp [intOf]; omega
    · have hiI : ¬ (i : Int) < 3 := by omega
      have L := nlog HH.out hlog
      go_wp2_with fail
      refine L.mono ?_
      rintro e w3 ⟨v, rfl, ho, M3, _⟩
      obtain ⟨a, cap, rfl⟩ := owns_len ho
      clear L
      go_wp2_with fail
      go_ret
      exact ⟨rfl, M3⟩
end Go.Proofs.Ytekalkjghfghhab
