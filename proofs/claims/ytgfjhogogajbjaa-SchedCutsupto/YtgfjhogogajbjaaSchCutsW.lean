import Derived.Test.YtgfjhogogajbjaaSchCuts
namespace Go.Proofs.Ytgfjhogogajbjaa
open Go.RowKit Go.Shelf
attribute [local go_sem] Oper.semAt_some

set_option maxHeartbeats 1600000 in
set_option maxRecDepth 1000000 in
theorem rstretches_no (w : World) (n : Int) (a : Option Addr) (m cap : Nat) (hz : rfz n m ≠ 0) :
    Calls Try.prog 11 #[.int .i64 n, .slice a m cap] w fun e w' => e = .returned (.slice none 0 0) ∧ Keeps (fun _ => False) w w' := by
  have hf := fun (w : World) => refused_any w n a m cap
  have hzb : (rfz n m != 0) = true := by simpa using hz
  generalize rfz n m = r at *
  clear hz
  go_enter Try.func11, Try.ntmps11
  go_wp2_with ((go_at_call 17; refine (hf _).mono ?_; rintro e w9 ⟨rfl, hw9⟩; have hw9 := hw9.symm; subst hw9))
  go_ret
  exact ⟨rfl, Keeps.refl _ _⟩

theorem schedCuts_walk {w : World} (n : Int) (_ : I64 n) {a : Option Addr} {m : Nat} {z : Nat → Int} (h : NL w a m z) (_ : ∀ i, i < m → I64 (z i)) (hm : m ≤ 1048576) (cap : Nat) (stop : Int) (_ : I64 stop) :
    Calls Try.prog 6 #[.int .i64 n, .slice a m cap, .int .i64 stop] w fun e w' => e = .returned (.bool true) ∧ Below w.heap.size w w' := by
  by_cases hz : rfz n m = 0
  · have := rfz_zero hz
    obtain ⟨nt, rfl⟩ : ∃ nt : Nat, n = (nt : Int) := ⟨n.toNat, by omega⟩
    obtain ⟨M, hM⟩ := many (nmf nt z) m
    have hM1 := hM.1
    refine (callsIn_wide.1 (cuts_gen (cap := cap) (n := (nt : Int)) (gf := 21) (M := M) (c := fun j => cut (nmf nt z) m j) h hm stop (by omega) (enters_of Try.func21 (by kernel_rfl) rfl) (fun W k => ?_) (fun W a1 cap1 h1 => ?_))).mono ?_
    · exact callsIn_wide (n := 5).2 (rstretches_any (cap := cap) (h.new k) (by omega) (by omega) hM)
    · refine (callsIn_wide (n := 5).2 (stretches_any (cap := cap1) h1 (nt := nt) (by omega) (by omega))).mono ?_
      rintro e w' ⟨B1, B2, a', cap', rfl, hq⟩
      exact ⟨_, rfl, hq.keeps, gives_any hq (by omega) hM⟩
    · rintro e w' ⟨rfl, k⟩
      exact ⟨rfl, k.below (Nat.le_refl _) (fun _ _ e => e)⟩
  · refine (callsIn_wide.1 (cuts_gen (cap := cap) (n := n) (gf := 19) (M := 0) (c := fun _ => cu0) h hm stop (by omega) (enters_of Try.func19 (by kernel_rfl) rfl) (fun W k => ?_) (fun W a1 cap1 h1 => ?_))).mono ?_
    · refine (callsIn_wide (n := 5).2 (rstretches_no W n a m cap hz)).mono ?_
      rintro e w' ⟨rfl, k'⟩
      exact ⟨_, rfl, ⟨rfl, .inl ⟨rfl, rfl⟩⟩, k'⟩
    · refine (callsIn_wide (n := 5).2 (stretches_no W n a1 m cap1 hz)).mono ?_
      rintro e w' ⟨rfl, k'⟩
      exact ⟨_, rfl, k', gives_none _ _ _⟩
    · rintro e w' ⟨rfl, k⟩
      exact ⟨rfl, k.below (Nat.le_refl _) (fun _ _ e => e)⟩
end Go.Proofs.Ytgfjhogogajbjaa
