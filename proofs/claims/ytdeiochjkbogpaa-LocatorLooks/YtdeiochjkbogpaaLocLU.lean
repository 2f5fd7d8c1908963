import Derived.Test.YtdeiochjkbogpaaLocLT
namespace Go.Proofs.Ytdeiochjkbogpaa
open Go.RowKit
section
variable {W W' : World} {ρ ρ' : Nat → Nat} {fb rb wb mb n k : Nat} {s : Ws} {m : Mm} {fv : Nat → Value} {c : Nat → Cl} {want : List Vl} {was : List (List Vl)} {ws : List Value} {mk : Int}
/-- What is wanted of an object, in memory. -/
theorem FL.wants (F : FL W ρ fb rb fv c want was ws mk) : ∃ a cap, fv 37 = .slice a want.length cap ∧ VA W a want ∧ ∀ g o, a = some ⟨g, o, none⟩ → ρ g = 17 := by
  obtain ⟨a, cap, e, h, hb⟩ := va_own F.wo rfl
  exact ⟨a, cap, e, h, fun g o ha => F.wr g (hb g o ha).2⟩
/-- One of the lists that were, in memory. -/
theorem FL.lists_at (F : FL W ρ fb rb fv c want was ws mk) {i : Nat} (hi : i < was.length) : ∃ g cap a' c', fv 38 = .slice (some ⟨g, 0, none⟩) was.length cap ∧ ρ g = 18 ∧ W.cell? ⟨g, i, none⟩ = some (.slice a' (was.getD i []).length c') ∧ VA W a' (was.getD i []) ∧ ∀ h o, a' = some ⟨h, o, none⟩ → ρ h = 19 := by
  obtain ⟨a, cap, e, hg⟩ := owns_slice F.so
  obtain ⟨g, ea, eb⟩ := hg (by omega)
  subst ea
  have hl : ws.length = was.length := by
    have h1 := F.so.1
    rwa [Nat.mul_one] at h1
  have hv : ws[i]? = some (ws[i]'(by omega)) := List.getElem?_eq_getElem (by omega)
  have hw : was[i]? = some (was.getD i []) := by
    rw [List.getD_eq_getElem?_getD, List.getElem?_eq_getElem hi]
    rfl
  obtain ⟨a', c', e', h', hb'⟩ := va_own (F.si i _ _ hw hv) rfl
  have hc := own_cellq F.so eb i _ hv
  rw [e'] at hc
  exact ⟨g, cap, a', c', e, F.sr g eb, hc, h', fun h o ha => F.sj i _ h hv (hb' h o ha).2⟩
/-- What a client put, in memory. -/
theorem FL.puts (F : FL W ρ fb rb fv c want was ws mk) (hk : k < 4) : ∃ a cap, fv (1 + k * 9 + 8) = .slice a (c k).put.length cap ∧ ∀ i, i < (c k).put.length → ∃ g, a = some ⟨g, 0, none⟩ ∧ W.cell? ⟨g, i, none⟩ = some (.int .i64 ((c k).put.getD i 0)) := by
  obtain ⟨a, cap, e, hg⟩ := owns_slice (F.ph k hk)
  refine ⟨a, cap, e, fun i hi => ?_⟩
  obtain ⟨g, ea, eb⟩ := hg (by omega)
  exact ⟨g, ea, own_cellq (F.ph k hk) eb i _ (by simp [iis, List.getD_eq_getElem?_getD, List.getElem?_eq_getElem hi])⟩
end
end Go.Proofs.Ytdeiochjkbogpaa
