import Derived.Test.YtfbbllokpikbiabCyK
namespace Go.Proofs.Ytfbbllokpikbiab
open Go.RowKit Go.Deep
attribute [local go_sem] Oper.semAt_some run_store_nf run_store_f
def nmi (B : Nat → Int) : Nat → Value := fun i => .int .i64 (B i)
theorem nmi_up {B : Nat → Int} {x : Nat} {k : Int} : ∀ i, upV (nmi B) x (.int .i64 k) i = nmi (upI B x k) i := fun i => by unfold upV nmi upI; split <;> rfl
set_option maxHeartbeats 1500000 in
set_option maxRecDepth 100000 in
theorem gsound_bad {w : World} {a : Option Addr} {cap : Nat} {l : List Ed} (n : Int) (hl : EL w a l) (hlen : l.length ≤ 4398046510976) (h0 : fltG n l ≠ 0) : Calls Try.prog 6 #[.int .i64 n, .slice a l.length cap] w fun e w' => e = .returned (.bool true) ∧ Below w.heap.size w w' := by
  have hor : Calls Try.prog 16 #[.int .i64 n, .slice a l.length cap] w fun e w' => ∃ va vc, e = .returned (.tuple #[.slice va 0 vc, .bool false, .int .i64 (fltG n l)]) ∧ Keeps (fun _ => False) w w' := by
    refine (Order_any (cap := cap) n hl (by omega)).mono ?_
    rintro e w' ⟨v, L, ok, ec, rfl, hr, hA, k⟩
    obtain ⟨va, vc, rfl, -⟩ := own_slice hr
    rcases hA with ⟨-, rfl, rfl, rfl⟩ | ⟨q, -⟩
    · exact ⟨va, vc, rfl, k⟩
    · exact absurd q h0
  have HCY : Hid (∀ W, Keeps (fun _ => False) w W → Calls Try.prog 7 #[.int .i64 n, .slice a l.length cap] W fun e w' => ∃ va vc, e = .returned (.tuple #[.slice va 0 vc, .int .i64 (fltG n l)]) ∧ Keeps (fun _ => False) W w') := fun W k => by
    refine (Cycle_any (cap := cap) n (hl.keep k) (by omega)).mono ?_
    rintro e w' ⟨va, vc, L, ec, rfl, -, hA, k⟩
    rcases hA with ⟨-, rfl, rfl⟩ | ⟨q, -⟩
    · exact ⟨va, vc, rfl, k⟩
    · exact absurd q h0
  have HGD : Hid (∀ W, Keeps (fun _ => False) w W → Calls Try.prog 9 #[.int .i64 n, .slice a l.length cap] W fun e w' => e = .returned (.bool false) ∧ Keeps (fun _ => False) W w') := fun W k => by
    have h := good_any (cap := cap) n (hl.keep k) (by omega)
    rw [decide_eq_false h0] at h
    exact h
  have s1 : (fltG n l == 0) = false := by rw [beq_eq_false_iff_ne]; exact h0
  have s2 : (fltG n l != 0) = true := by rw [bne_iff_ne]; exact h0
  clear h0 hl
  generalize fltG n l = R at *
  generalize l.length = N at *
  go_enter Try.func6, Try.ntmps6
  go_wp2_with (first | (go_at_call 16; refine hor.mono ?_; clear hor; rintro e w1 ⟨va, vc, rfl, k1⟩; have hcy := HCY.out w1 k1) | (go_at_call 7; refine hcy.mono ?_; clear hcy; rintro e w2 ⟨ca, cc, rfl, k2⟩; have hgd := HGD.out w2 (k1.trans k2)) | (go_at_call 9; refine hgd.mono ?_; clear hgd; rintro e w3 ⟨rfl, k3⟩; have hfx := fixed_any w3) | (go_at_call 15; refine hfx.mono ?_; clear hfx; rintro e w4 ⟨rfl, k4⟩))
  go_ret
  exact ⟨rfl, (((k1.trans k2).trans k3).trans k4).below (Nat.le_refl _) (fun _ _ e => e)⟩
end Go.Proofs.Ytfbbllokpikbiab
