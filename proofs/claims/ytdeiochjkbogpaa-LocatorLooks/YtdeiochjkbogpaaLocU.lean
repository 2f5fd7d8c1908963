import Derived.Test.YtdeiochjkbogpaaLocT5
namespace Go.Proofs.Ytdeiochjkbogpaa
open Go.RowKit

/-- Values in memory, wherever. -/
def VA (w : World) (a : Option Addr) (vs : List Vl) : Prop :=
  vs.length = 0 ∨ ∃ b off, a = some ⟨b, off, none⟩ ∧ ∀ i v, vs[i]? = some v → w.cell? ⟨b, off + i * 3, none⟩ = some (.int .i64 v.num) ∧ w.cell? ⟨b, off + i * 3 + 1, none⟩ = some (.int .i64 v.next) ∧ w.cell? ⟨b, off + i * 3 + 2, none⟩ = some (.bool v.dead)
theorem VA.new {w w' : World} {a : Option Addr} {vs : List Vl} (h : VA w a vs) (k : Keeps (fun _ => False) w w') : VA w' a vs := by
  rcases h with h | ⟨b, off, rfl, h⟩
  · exact .inl h
  · exact .inr ⟨b, off, rfl, fun i v hi => ⟨k.cell (h i v hi).1 (fun e => e), k.cell (h i v hi).2.1 (fun e => e), k.cell (h i v hi).2.2 (fun e => e)⟩⟩
theorem va_own {w : World} {base n : Nat} {v : Value} {vs : List Vl} (h : w.ownsRow base 52 3 v n (fl vc3 vs)) (hn : vs.length = n) : ∃ a cap, v = .slice a n cap ∧ VA w a vs ∧ ∀ g o, a = some ⟨g, o, none⟩ → base ≤ g ∧ v.ownBlock = some g := by
  rcases h.2 with ⟨h1, h0⟩ | ⟨g, cap, cur, h1, hb, _⟩
  · exact ⟨none, 0, by rw [h1, h0], .inl (by omega), fun _ _ e => by cases e⟩
  · refine ⟨_, _, h1, .inr ⟨g, 0, rfl, fun i x hi => ?_⟩, fun g' o e => by cases e; exact ⟨hb, by rw [h1]; rfl⟩⟩
    have q : ∀ {k : Nat} {y : Value}, (vc3 x)[k]? = some y → w.cell? ⟨g, i * 3 + k, none⟩ = some y := fun {k y} e => by
      have hk : k < 3 := by
        rcases Nat.lt_or_ge k 3 with l | l
        · exact l
        · rw [List.getElem?_eq_none (by rw [vc3_len]; exact l)] at e; cases e
      exact owns_cell h (by rw [h1]; rfl) (by rw [fl_get vc3_len vs i k hk, hi]; exact e)
    simp only [Nat.zero_add]
    exact ⟨q (k := 0) rfl, q (k := 1) rfl, q (k := 2) rfl⟩
theorem VA.at {w : World} {a : Option Addr} {vs : List Vl} (h : VA w a vs) {i : Nat} (hi : i < vs.length) : ∃ b off, a = some ⟨b, off, none⟩ ∧ w.cell? ⟨b, off + i * 3, none⟩ = some (.int .i64 (vs.getD i vl0).num) ∧ w.cell? ⟨b, off + i * 3 + 1, none⟩ = some (.int .i64 (vs.getD i vl0).next) ∧ w.cell? ⟨b, off + i * 3 + 2, none⟩ = some (.bool (vs.getD i vl0).dead) := by
  obtain ⟨b, off, e, h⟩ := h.resolve_left (by omega)
  exact ⟨b, off, e, h i _ (getD_get hi)⟩

set_option maxHeartbeats 1600000 in
set_option maxRecDepth 1000000 in
/-- Two lists of the same values. -/
theorem same_eq {w : World} {a b : Option Addr} {vs : List Vl} (ha : VA w a vs) (hb : VA w b vs) (hn : vs.length ≤ 1000000) (ca cb : Nat) :
    Calls Try.prog 9 #[.slice a vs.length ca, .slice b vs.length cb] w fun e w' => e = .returned (.bool true) ∧ Keeps (fun _ => False) w w' := by
  go_enter Try.func9, Try.ntmps9
  go_wp2_with fail
  go_loopw [5] (fun iv wr => ∃ i : Nat, i ≤ vs.length ∧ iv = .int .i64 (i : Int) ∧ Keeps (fun _ => False) w wr) (fun iv _ => vs.length - (intOf iv).toNat)
  case atStart => exact ⟨0, Nat.zero_le _, rfl, Keeps.refl _ w⟩
  case round =>
    obtain ⟨i, hi, rfl, hk⟩ := hrel
    by_cases hlt : i < vs.length
    · have hltI : (i : Int) < (vs.length : Int) := by omega
      obtain ⟨b1, o1, rfl, x0, x1, x2⟩ := (ha.new hk).at hlt
      obtain ⟨b2, o2, rfl, y0, y1, y2⟩ := (hb.new hk).at hlt
      have x0' := ks_cell x0
      have x1' := ks_cell x1
      have x2' := ks_cell x2
      have y0' := ks_cell y0
      have y1' := ks_cell y1
      have y2' := ks_cell y2
      have hNE : Nonempty (KS wr) := ⟨⟨wr, Keeps.refl _ wr⟩⟩
      generalize vs.getD i vl0 = v at *
      clear ha hb x0 x1 x2 y0 y1 y2
      go_wp2_with fail
      refine wp_region_ks (by kernel_rfl) (by kernel_rfl) ?_
      repeat (go_big_quiet_step (fail))
      refine wpQuiet_nil ?_
      rintro _ ⟨U, rfl⟩
      have KU := hk.trans U.property
      clear x0' x1' x2' y0' y1' y2' hNE
      generalize U.val = wu at *
      go_wp2_with fail
      go_roundw
      case rel => exact ⟨i + 1, by omega, by go_num, KU⟩
      case measure => simp [intOf]; omega
    · have hltI : ¬ (i : Int) < (vs.length : Int) := by omega
      clear ha hb
      go_wp2_with fail
      go_ret
      exact ⟨rfl, hk⟩
end Go.Proofs.Ytdeiochjkbogpaa
