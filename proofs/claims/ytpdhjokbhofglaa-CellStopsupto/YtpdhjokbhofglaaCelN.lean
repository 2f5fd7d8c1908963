import Derived.Test.YtpdhjokbhofglaaCelBA
import Derived.Test.YtpdhjokbhofglaaCelBS
import Derived.IntWalk
namespace Go.Proofs.Ytpdhjokbhofglaa
open Go.RowKit

set_option maxHeartbeats 800000 in
set_option maxRecDepth 1000000 in
theorem num_any (w : World) (a : Int) : Calls Try.prog 5 #[.int .i64 a] w fun e w' => e = .returned (.int .i64 a) ∧ w' = w := by
  go_enter Try.func5, Try.ntmps5
  go_wp2
  go_ret
  exact ⟨rfl, rfl⟩

/-- A memory whose blocks are all new. -/
def MN (w0 w : World) (mb : Nat) (s : Mm) : Prop := ∃ F, MI w mb s F ∧ (∀ k ∈ F, w0.heap.size ≤ k) ∧ Keeps (fun _ => False) w0 w

section
variable {w0 w : World} {mb : Nat} {s : Mm}
theorem MN.made {w' : World} (hk : Keeps (fun _ => False) w0 w) (h : MI w' w.heap.size Mm.new [w.heap.size]) (k : Keeps (fun _ => False) w w') : MN w0 w' w.heap.size Mm.new :=
  ⟨_, h, fun i hi => by simp at hi; rw [hi]; exact hk.size, hk.trans k⟩
theorem MN.keeps (h : MN w0 w mb s) : Keeps (fun _ => False) w0 w := by obtain ⟨F, _, _, k⟩ := h; exact k
theorem MN.next {w' : World} {s' : Mm} {F F' : List Nat} (hF : ∀ k ∈ F, w0.heap.size ≤ k) (hk : Keeps (fun _ => False) w0 w) (h : MI w' mb s' F') (l : Left w w' F F') : MN w0 w' mb s' :=
  ⟨F', h, fun k hk' => (l.old k hk').elim (hF k) (fun e => Nat.le_trans hk.size e), hk.trans' l.keeps (fun _ _ e => e) (fun i hi e => by have := hF i e; omega)⟩
theorem MN.new {w' : World} (h : MN w0 w mb s) (k : Keeps (fun _ => False) w w') : MN w0 w' mb s := by
  obtain ⟨F, h, hF, hk⟩ := h
  exact ⟨F, h.new k, hF, hk.trans k⟩

theorem nmake (h : MN w0 w mb s) (x : Int) (hl : s.cells.length < 65536) :
    Calls Try.prog 12 #[.pointer (some ⟨mb, 0, none⟩), .int .i64 x] w fun e w' => e = .returned (.tuple #[.int .i64 s.cells.length, .int .i64 0]) ∧ MN w0 w' mb (s.make x) := by
  obtain ⟨F, h, hF, hk⟩ := h
  refine (make_any h x hl).mono ?_
  rintro e w' ⟨rfl, F', h', l⟩
  exact ⟨rfl, MN.next hF hk h' l⟩
theorem nbegin (h : MN w0 w mb s) (st th : Int) (hm : s.may st th = true) :
    Calls Try.prog 6 #[.pointer (some ⟨mb, 0, none⟩), .int .i64 st, .int .i64 th] w fun e w' => e = .returned (.int .i64 0) ∧ MN w0 w' mb (s.begin st th) := by
  obtain ⟨F, h, hF, hk⟩ := h
  refine (begin_ok h st th hm).mono ?_
  rintro e w' ⟨rfl, h', l⟩
  exact ⟨rfl, MN.next hF hk h' l⟩
theorem nadd (h : MN w0 w mb s) {c : Nat} (hc : c < s.cells.length) (hfr : s.free = true) (hlog : (s.log.length + 1) * 56 ≤ 140737488355328) (u : Int) :
    Calls Try.prog 10 #[.pointer (some ⟨mb, 0, none⟩), .int .i64 (c : Int), .int .i64 u] w fun e w' =>
      e = .returned (.tuple #[.int .i64 (ca s.cells c).2, .int .i64 0]) ∧ MN w0 w' mb (s.take 3 c (wrap64 ((ca s.cells c).2 + u)) true) := by
  obtain ⟨F, h, hF, hk⟩ := h
  refine (add_ok h hc hfr hlog u).mono ?_
  rintro e w' ⟨rfl, F', h', l⟩
  exact ⟨rfl, MN.next hF hk h' l⟩
theorem nload (h : MN w0 w mb s) {c : Nat} (hc : c < s.cells.length) (hfr : s.free = true) (hlog : (s.log.length + 1) * 56 ≤ 140737488355328) :
    Calls Try.prog 17 #[.pointer (some ⟨mb, 0, none⟩), .int .i64 (c : Int)] w fun e w' =>
      e = .returned (.tuple #[.int .i64 (ca s.cells c).2, .int .i64 0]) ∧ MN w0 w' mb (s.take 1 c (ca s.cells c).2 true) := by
  obtain ⟨F, h, hF, hk⟩ := h
  refine (load_ok h hc hfr hlog).mono ?_
  rintro e w' ⟨rfl, F', h', l⟩
  exact ⟨rfl, MN.next hF hk h' l⟩
theorem nswap (h : MN w0 w mb s) {c : Nat} (hc : c < s.cells.length) (hfr : s.free = true) (hlog : (s.log.length + 1) * 56 ≤ 140737488355328) (old next : Int) :
    Calls Try.prog 15 #[.pointer (some ⟨mb, 0, none⟩), .int .i64 (c : Int), .int .i64 old, .int .i64 next] w fun e w' =>
      e = .returned (.tuple #[.bool (decide ((ca s.cells c).2 = old)), .int .i64 0]) ∧ MN w0 w' mb (s.take 2 c (if (ca s.cells c).2 = old then next else (ca s.cells c).2) (decide ((ca s.cells c).2 = old))) := by
  obtain ⟨F, h, hF, hk⟩ := h
  refine (swap_ok h hc hfr hlog old next).mono ?_
  rintro e w' ⟨rfl, F', h', l⟩
  exact ⟨rfl, MN.next hF hk h' l⟩
theorem npeek (h : MN w0 w mb s) {c : Nat} (hc : c < s.cells.length) :
    Calls Try.prog 13 #[.pointer (some ⟨mb, 0, none⟩), .int .i64 (c : Int)] w fun e w' => e = .returned (.tuple #[.int .i64 (ca s.cells c).2, .int .i64 0]) ∧ w' = w := by
  obtain ⟨F, h, _, _⟩ := h
  exact peek_any h hc
end

/-- Numbers in memory. -/
def NL (w : World) (a : Option Addr) (n : Nat) (z : Nat → Int) : Prop :=
  n = 0 ∨ ∃ b off, a = some ⟨b, off, none⟩ ∧ b < w.heap.size ∧ ∀ i, i < n → w.cell? ⟨b, off + i, none⟩ = some (.int .i64 (z i))
theorem NL.new {w w' : World} {a : Option Addr} {n : Nat} {z : Nat → Int} (h : NL w a n z) (k : Keeps (fun _ => False) w w') : NL w' a n z := by
  rcases h with h | ⟨b, off, rfl, hb, h⟩
  · exact .inl h
  · exact .inr ⟨b, off, rfl, Nat.lt_of_lt_of_le hb k.size, fun i hi => k.cell (h i hi) (fun e => e)⟩
theorem NL.some {w : World} {a : Option Addr} {n : Nat} {z : Nat → Int} (h : NL w a n z) (hl : 0 < n) : ∃ b off, a = Option.some ⟨b, off, none⟩ ∧ b < w.heap.size ∧ ∀ i, i < n → w.cell? ⟨b, off + i, none⟩ = Option.some (.int .i64 (z i)) := h.resolve_left (by omega)

end Go.Proofs.Ytpdhjokbhofglaa
