import Derived.Test.YtfbbllokpikbiabOqHSt
namespace Go.Proofs.Ytfbbllokpikbiab
open Go.RowKit Go.Maps

set_option maxHeartbeats 1600000 in
set_option maxRecDepth 1000000 in
/-- Which of two comes first. -/
theorem before_any (w : World) (a b : It) :
    Calls Try.prog 75 #[.agg #[.int .i64 a.1, .int .i64 a.2], .agg #[.int .i64 b.1, .int .i64 b.2]] w fun e w' => e = .returned (.bool (bef a b)) ∧ Keeps (fun _ => False) w w' := by
  obtain ⟨a1, a2⟩ := a
  obtain ⟨b1, b2⟩ := b
  have K : ∀ o o', Keeps (fun _ => False) w ((w.alloc o).alloc o') := fun o o' => ((Keeps.refl _ w).alloc o).alloc o'
  by_cases h : a1 = b1
  · have h0 : (a1 != b1) = false := by simp [h]
    go_enter Try.func75, Try.ntmps75
    go_wp2
    all_goals go_ret
    all_goals exact ⟨by simp [bef, h], K _ _⟩
  · have h0 : (a1 != b1) = true := by simp [h]
    go_enter Try.func75, Try.ntmps75
    go_wp2
    all_goals go_ret
    all_goals exact ⟨by simp [bef, h], K _ _⟩

/-- The map that the closure holds. -/
structure Side (w : World) (pm mb s : Nat) (M : Mp) : Prop where
  cell : w.cell? ⟨pm, 0, none⟩ = some (.map (some mb))
  map : MapIs w mb s M
  small : s < maxLen
  ne : pm ≠ mb

theorem Side.keep {w w' : World} {pm mb s : Nat} {M : Mp} (h : Side w pm mb s M) {S : Nat → Prop} (hk : Keeps S w w') (hp : ¬ S pm) (hm : ¬ S mb) : Side w' pm mb s M :=
  ⟨hk.cell h.cell hp, h.map.keep hk hm, h.small, h.ne⟩

set_option maxHeartbeats 1600000 in
set_option maxRecDepth 1000000 in
/-- Where an item comes to stand is written down. -/
theorem placed_any {w : World} {pm mb s : Nat} {M : Mp} (h : Side w pm mb s M) (x : It) (p : Int) (hx : I64 x.2) (hp : I64 p) :
    Calls Try.prog 76 #[.agg #[.int .i64 x.1, .int .i64 x.2], .int .i64 p, .pointer (some ⟨pm, 0, none⟩)] w fun e w' => e = .returned (.tuple #[]) ∧
      (w'.cell? ⟨pm, 0, none⟩ = some (.map (some mb)) ∧ MapIs w' mb (nx M s x.2) (M.put x.2 p)) ∧ Keeps (fun k => k = mb) w w' := by
  have c := h.cell
  have c' := ((Keeps.refl (fun _ => False) w).alloc (.cells #[.int .i64 x.1, .int .i64 x.2] 76)).cell c (fun e => e)
  obtain ⟨w1, hrun, hm, hg⟩ := (h.map.keep ((Keeps.refl (fun _ => False) w).alloc (.cells #[.int .i64 x.1, .int .i64 x.2] 76)) (fun e => e)).store hx hp h.small
  go_enter Try.func76, Try.ntmps76
  go_wp2
  go_end0
  have K : Keeps (fun k => k = mb) w w1 := ((Keeps.refl _ w).alloc _).grown hg (fun i _ e => by cases e; rfl)
  exact ⟨rfl, ⟨K.cell c h.ne, hm⟩, K⟩

end Go.Proofs.Ytfbbllokpikbiab
