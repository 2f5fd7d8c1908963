import Derived.Test.YtmcchconnfoffacDoorCmTrG
import Derived.Test.YtmcchconnfoffacDoorCmOpen
namespace Go.Proofs.YtmcchconnfoffacDoor
open Go.RowKit
theorem rname_in (w : World) {k : Nat} (hk : k < 5) : Calls Tryd.prog 12 #[.int .i64 (k : Int)] w fun e w' => (∃ s : ByteArray, e = .returned (.string s) ∧ (s.toList == []) = false) ∧ w' = w := by
  match k, hk with
  | 0, _ | 1, _ | 2, _ | 3, _ | 4, _ =>
    go_enter Tryd.func12, Tryd.ntmps12
    go_wp2
    go_ret
    exact ⟨⟨_, rfl, by rw [ByteArray.toList_eq]; rfl⟩, rfl⟩
theorem rname_out (w : World) {k : Int} (hk : k < 0 ∨ 5 ≤ k) : Calls Tryd.prog 12 #[.int .i64 k] w fun e w' => e = .returned (.string ⟨#[]⟩) ∧ w' = w := by
  have h0 : (k == 0) = false := by simp; omega
  have h1 : (k == 1) = false := by simp; omega
  have h2 : (k == 2) = false := by simp; omega
  have h3 : (k == 3) = false := by simp; omega
  have h4 : (k == 4) = false := by simp; omega
  go_enter Tryd.func12, Tryd.ntmps12
  go_wp2
  go_ret
  exact ⟨rfl, rfl⟩
theorem rmay_in (w : World) {k : Nat} (hk : k < 5) {p : Int} (hp : Pat p) : Calls Tryd.prog 19 #[.int .i64 (k : Int), .int .i64 p] w fun e w' => e = .returned (.int .i64 0) ∧ w' = w := by
  have h1 := hp.1
  have h2 := hp.2
  go_enter Tryd.func19, Tryd.ntmps19
  go_wp2_with (go_at_call 12; refine (rname_in _ hk).mono ?_; rintro e w1 ⟨⟨s, rfl, hs⟩, rfl⟩)
  go_ret
  exact ⟨rfl, rfl⟩
theorem rmay_no1 (w : World) {k p : Int} (hk : k < 0 ∨ 5 ≤ k) : Calls Tryd.prog 19 #[.int .i64 k, .int .i64 p] w fun e w' => e = .returned (.int .i64 60) ∧ w' = w := by
  go_enter Tryd.func19, Tryd.ntmps19
  go_wp2_with (go_at_call 12; refine (rname_out _ hk).mono ?_; rintro e w1 ⟨rfl, rfl⟩)
  go_ret
  exact ⟨rfl, rfl⟩
theorem rmay_no2 (w : World) {k : Nat} (hk : k < 5) {p : Int} (hp : p < 1 ∨ (¬ p < 1 ∧ 4096 < p)) : Calls Tryd.prog 19 #[.int .i64 (k : Int), .int .i64 p] w fun e w' => e = .returned (.int .i64 61) ∧ w' = w := by
  rcases hp with h | ⟨h, h2⟩
  all_goals
    go_enter Tryd.func19, Tryd.ntmps19
    go_wp2_with (go_at_call 12; refine (rname_in _ hk).mono ?_; rintro e w1 ⟨⟨s, rfl, hs⟩, rfl⟩)
    go_ret
    exact ⟨rfl, rfl⟩
/-- A manager that may be. -/
def okMk (q : Mk) : Prop := 0 ≤ q.kind ∧ q.kind < 5 ∧ Pat q.pat
set_option maxHeartbeats 1600000 in
theorem made_ok (w : World) {k : Nat} (hk : k < 5) {p : Int} (hp : Pat p) : Calls Tryd.prog 7 #[.agg #[.int .i64 (k : Int), .int .i64 p]] w fun e w' => ∃ b, e = .returned (.tuple #[.pointer (some ⟨b, 0, none⟩), .bool true]) ∧ w.heap.size ≤ b ∧ Mg w' b k p ∧ Keeps (fun _ => False) w w' := by
  obtain ⟨w0, hw0⟩ : ∃ w0, w0 = w.alloc (.cells #[.int .i64 (k : Int), .int .i64 p] 30) := ⟨_, rfl⟩
  have K0 : Keeps (fun _ => False) w w0 := by rw [hw0]; exact (Keeps.refl _ w).alloc _
  have d0 : w0.cell? ⟨w.heap.size, 0, none⟩ = some (.int .i64 (k : Int)) := by rw [hw0]; simp
  have d1 : w0.cell? ⟨w.heap.size, 1, none⟩ = some (.int .i64 p) := by rw [hw0]; simp
  have hn := new_any w0 hk hp
  have hmay := fun W => rmay_in W hk hp
  clear hk hp
  go_enter Tryd.func7, Tryd.ntmps7
  go_wp2_with fail
  rw [← hw0]
  clear hw0
  refine hn.mono ?_
  clear hn
  rintro e w1 ⟨b, rfl, hb, M, k1⟩
  have hs := K0.size
  have e0 := k1.cell d0 id
  have e1 := k1.cell d1 id
  have K1 := K0.trans k1
  clear d0 d1 K0 k1
  go_wp2_with (first | (go_at_call 19; refine (hmay _).mono ?_; rintro e w2 ⟨rfl, rfl⟩) | (go_at_call 5; refine (num_any _ _).mono ?_; rintro e w2 ⟨rfl, rfl⟩))
  go_ret2
  exact ⟨b, rfl, by omega, M, K1⟩
set_option maxHeartbeats 1600000 in
theorem made_no (w : World) {q : Mk} (hq : ¬ okMk q) : Calls Tryd.prog 7 #[.agg #[.int .i64 q.kind, .int .i64 q.pat]] w fun e w' => e = .returned (.tuple #[.pointer none, .bool true]) ∧ Keeps (fun _ => False) w w' := by
  obtain ⟨k, p⟩ := q
  simp only
  obtain ⟨n, hn, hmay, hn0⟩ : ∃ n : Int, (∀ W, Calls Tryd.prog 4 #[.int .i64 k, .int .i64 p] W fun e w' => e = .returned (.tuple #[.pointer none, .int .i64 n]) ∧ w' = W) ∧ (∀ W, Calls Tryd.prog 19 #[.int .i64 k, .int .i64 p] W fun e w' => e = .returned (.int .i64 n) ∧ w' = W) ∧ (n != 0) = true := by
    by_cases hk : k < 0 ∨ 5 ≤ k
    · exact ⟨60, fun W => new_no1 W hk, fun W => rmay_no1 W hk, rfl⟩
    · obtain ⟨m, rfl⟩ := Int.eq_ofNat_of_zero_le (show 0 ≤ k by omega)
      have hp : p < 1 ∨ (¬ p < 1 ∧ 4096 < p) := by
        by_cases h : p < 1
        · exact .inl h
        · by_cases h2 : 4096 < p
          · exact .inr ⟨h, h2⟩
          · exact absurd ⟨by simp, by simp; omega, ⟨by simp; omega, by simp; omega⟩⟩ hq
      exact ⟨61, fun W => new_no2 W (by omega) (by omega) (by omega), fun W => rmay_no2 W (by omega) hp, rfl⟩
  obtain ⟨w0, hw0⟩ : ∃ w0, w0 = w.alloc (.cells #[.int .i64 k, .int .i64 p] 30) := ⟨_, rfl⟩
  have K0 : Keeps (fun _ => False) w w0 := by rw [hw0]; exact (Keeps.refl _ w).alloc _
  have d0 : w0.cell? ⟨w.heap.size, 0, none⟩ = some (.int .i64 k) := by rw [hw0]; simp
  have d1 : w0.cell? ⟨w.heap.size, 1, none⟩ = some (.int .i64 p) := by rw [hw0]; simp
  clear hq
  go_enter Tryd.func7, Tryd.ntmps7
  go_wp2_with fail
  rw [← hw0]
  clear hw0
  refine (hn _).mono ?_
  clear hn
  rintro e w1 ⟨rfl, rfl⟩
  go_wp2_with (first | (go_at_call 19; refine (hmay _).mono ?_; rintro e w2 ⟨rfl, rfl⟩) | (go_at_call 5; refine (num_any _ _).mono ?_; rintro e w2 ⟨rfl, rfl⟩))
  go_ret2
  exact ⟨rfl, K0⟩
set_option maxHeartbeats 1600000 in
set_option maxRecDepth 1000000 in
theorem kind0 {w : World} {mb : Nat} {p : Int} (hm : w.cell? ⟨mb, 0, none⟩ = some (.iface 49 (.agg #[.int .i64 p]))) :
    Calls Tryd.prog 9 #[.pointer (some ⟨mb, 0, none⟩)] w fun e w' => e = .returned (.int .i64 0) ∧ Keeps (fun _ => False) w w' := by
  have hi := isNone_no hm
  have hme : ∀ w : World, (method 179 49 (.agg #[.int .i64 p]) "braid/cm.kind").run Tryd.prog w = .ok (39, .agg #[.int .i64 p]) w := fun _ => by kernel_rfl
  go_enter Tryd.func9, Tryd.ntmps9
  go_wp2_with (first | (go_at_call 20; refine hi.mono ?_; rintro e w1 ⟨rfl, rfl⟩) | (go_at_call 39; refine (kindOf0 _ _).mono ?_; rintro e w2 ⟨rfl, k2⟩))
  go_ret
  exact ⟨rfl, k2⟩
set_option maxHeartbeats 1600000 in
set_option maxRecDepth 1000000 in
theorem kind1 {w : World} {mb : Nat} {p : Int} (hm : w.cell? ⟨mb, 0, none⟩ = some (.iface 50 (.agg #[.int .i64 p]))) :
    Calls Tryd.prog 9 #[.pointer (some ⟨mb, 0, none⟩)] w fun e w' => e = .returned (.int .i64 1) ∧ Keeps (fun _ => False) w w' := by
  have hi := isNone_no hm
  have hme : ∀ w : World, (method 179 50 (.agg #[.int .i64 p]) "braid/cm.kind").run Tryd.prog w = .ok (41, .agg #[.int .i64 p]) w := fun _ => by kernel_rfl
  go_enter Tryd.func9, Tryd.ntmps9
  go_wp2_with (first | (go_at_call 20; refine hi.mono ?_; rintro e w1 ⟨rfl, rfl⟩) | (go_at_call 41; refine (kindOf1 _ _).mono ?_; rintro e w2 ⟨rfl, k2⟩))
  go_ret
  exact ⟨rfl, k2⟩
set_option maxHeartbeats 1600000 in
set_option maxRecDepth 1000000 in
theorem kind2 {w : World} {mb : Nat} {p : Int} (hm : w.cell? ⟨mb, 0, none⟩ = some (.iface 51 (.agg #[.int .i64 p]))) :
    Calls Tryd.prog 9 #[.pointer (some ⟨mb, 0, none⟩)] w fun e w' => e = .returned (.int .i64 2) ∧ Keeps (fun _ => False) w w' := by
  have hi := isNone_no hm
  have hme : ∀ w : World, (method 179 51 (.agg #[.int .i64 p]) "braid/cm.kind").run Tryd.prog w = .ok (43, .agg #[.int .i64 p]) w := fun _ => by kernel_rfl
  go_enter Tryd.func9, Tryd.ntmps9
  go_wp2_with (first | (go_at_call 20; refine hi.mono ?_; rintro e w1 ⟨rfl, rfl⟩) | (go_at_call 43; refine (kindOf2 _ _).mono ?_; rintro e w2 ⟨rfl, k2⟩))
  go_ret
  exact ⟨rfl, k2⟩
set_option maxHeartbeats 1600000 in
set_option maxRecDepth 1000000 in
theorem kind3 {w : World} {mb : Nat} {p : Int} (hm : w.cell? ⟨mb, 0, none⟩ = some (.iface 52 (.agg #[.int .i64 p]))) :
    Calls Tryd.prog 9 #[.pointer (some ⟨mb, 0, none⟩)] w fun e w' => e = .returned (.int .i64 3) ∧ Keeps (fun _ => False) w w' := by
  have hi := isNone_no hm
  have hme : ∀ w : World, (method 179 52 (.agg #[.int .i64 p]) "braid/cm.kind").run Tryd.prog w = .ok (45, .agg #[.int .i64 p]) w := fun _ => by kernel_rfl
  go_enter Tryd.func9, Tryd.ntmps9
  go_wp2_with (first | (go_at_call 20; refine hi.mono ?_; rintro e w1 ⟨rfl, rfl⟩) | (go_at_call 45; refine (kindOf3 _ _).mono ?_; rintro e w2 ⟨rfl, k2⟩))
  go_ret
  exact ⟨rfl, k2⟩
set_option maxHeartbeats 1600000 in
set_option maxRecDepth 1000000 in
theorem kind4 {w : World} {mb : Nat} {p : Int} (hm : w.cell? ⟨mb, 0, none⟩ = some (.iface 54 (.agg #[.int .i64 p]))) :
    Calls Tryd.prog 9 #[.pointer (some ⟨mb, 0, none⟩)] w fun e w' => e = .returned (.int .i64 4) ∧ Keeps (fun _ => False) w w' := by
  have hi := isNone_no hm
  have hme : ∀ w : World, (method 179 54 (.agg #[.int .i64 p]) "braid/cm.kind").run Tryd.prog w = .ok (47, .agg #[.int .i64 p]) w := fun _ => by kernel_rfl
  go_enter Tryd.func9, Tryd.ntmps9
  go_wp2_with (first | (go_at_call 20; refine hi.mono ?_; rintro e w1 ⟨rfl, rfl⟩) | (go_at_call 47; refine (kindOf4 _ _).mono ?_; rintro e w2 ⟨rfl, k2⟩))
  go_ret
  exact ⟨rfl, k2⟩
theorem kind_any {w : World} {mb k : Nat} {p : Int} (h : Mg w mb k p) : Calls Tryd.prog 9 #[.pointer (some ⟨mb, 0, none⟩)] w fun e w' => e = .returned (.int .i64 (k : Int)) ∧ Keeps (fun _ => False) w w' := by
  obtain ⟨hk, _, hm⟩ := h
  match k, hk with
  | 0, _ => exact kind0 hm
  | 1, _ => exact kind1 hm
  | 2, _ => exact kind2 hm
  | 3, _ => exact kind3 hm
  | 4, _ => exact kind4 hm
theorem limPat (w : World) (p : Int) : Calls Tryd.prog 37 #[.agg #[.int .i64 p]] w fun e w' => e = .returned (.int .i64 p) ∧ Keeps (fun _ => False) w w' := by
  go_enter Tryd.func37, Tryd.ntmps37
  go_wp2
  go_ret
  exact ⟨rfl, (Keeps.refl _ w).alloc _⟩
theorem oraPat (w : World) (p : Int) : Calls Tryd.prog 48 #[.agg #[.int .i64 p]] w fun e w' => e = .returned (.int .i64 p) ∧ Keeps (fun _ => False) w w' := by
  go_enter Tryd.func48, Tryd.ntmps48
  go_wp2
  go_ret
  exact ⟨rfl, (Keeps.refl _ w).alloc _⟩
set_option maxHeartbeats 1600000 in
set_option maxRecDepth 1000000 in
theorem patience0 {w : World} {mb : Nat} {p : Int} (hm : w.cell? ⟨mb, 0, none⟩ = some (.iface 49 (.agg #[.int .i64 p]))) :
    Calls Tryd.prog 10 #[.pointer (some ⟨mb, 0, none⟩)] w fun e w' => e = .returned (.int .i64 p) ∧ Keeps (fun _ => False) w w' := by
  have hi := isNone_no hm
  have hme : ∀ w : World, (method 179 49 (.agg #[.int .i64 p]) "braid/cm.patience").run Tryd.prog w = .ok (37, .agg #[.int .i64 p]) w := fun _ => by kernel_rfl
  go_enter Tryd.func10, Tryd.ntmps10
  go_wp2_with (first | (go_at_call 20; refine hi.mono ?_; rintro e w1 ⟨rfl, rfl⟩) | (go_at_call 37; refine (limPat _ _).mono ?_; rintro e w2 ⟨rfl, k2⟩))
  go_ret
  exact ⟨rfl, k2⟩
set_option maxHeartbeats 1600000 in
set_option maxRecDepth 1000000 in
theorem patience1 {w : World} {mb : Nat} {p : Int} (hm : w.cell? ⟨mb, 0, none⟩ = some (.iface 50 (.agg #[.int .i64 p]))) :
    Calls Tryd.prog 10 #[.pointer (some ⟨mb, 0, none⟩)] w fun e w' => e = .returned (.int .i64 p) ∧ Keeps (fun _ => False) w w' := by
  have hi := isNone_no hm
  have hme : ∀ w : World, (method 179 50 (.agg #[.int .i64 p]) "braid/cm.patience").run Tryd.prog w = .ok (37, .agg #[.int .i64 p]) w := fun _ => by kernel_rfl
  go_enter Tryd.func10, Tryd.ntmps10
  go_wp2_with (first | (go_at_call 20; refine hi.mono ?_; rintro e w1 ⟨rfl, rfl⟩) | (go_at_call 37; refine (limPat _ _).mono ?_; rintro e w2 ⟨rfl, k2⟩))
  go_ret
  exact ⟨rfl, k2⟩
set_option maxHeartbeats 1600000 in
set_option maxRecDepth 1000000 in
theorem patience2 {w : World} {mb : Nat} {p : Int} (hm : w.cell? ⟨mb, 0, none⟩ = some (.iface 51 (.agg #[.int .i64 p]))) :
    Calls Tryd.prog 10 #[.pointer (some ⟨mb, 0, none⟩)] w fun e w' => e = .returned (.int .i64 p) ∧ Keeps (fun _ => False) w w' := by
  have hi := isNone_no hm
  have hme : ∀ w : World, (method 179 51 (.agg #[.int .i64 p]) "braid/cm.patience").run Tryd.prog w = .ok (37, .agg #[.int .i64 p]) w := fun _ => by kernel_rfl
  go_enter Tryd.func10, Tryd.ntmps10
  go_wp2_with (first | (go_at_call 20; refine hi.mono ?_; rintro e w1 ⟨rfl, rfl⟩) | (go_at_call 37; refine (limPat _ _).mono ?_; rintro e w2 ⟨rfl, k2⟩))
  go_ret
  exact ⟨rfl, k2⟩
set_option maxHeartbeats 1600000 in
set_option maxRecDepth 1000000 in
theorem patience3 {w : World} {mb : Nat} {p : Int} (hm : w.cell? ⟨mb, 0, none⟩ = some (.iface 52 (.agg #[.int .i64 p]))) :
    Calls Tryd.prog 10 #[.pointer (some ⟨mb, 0, none⟩)] w fun e w' => e = .returned (.int .i64 p) ∧ Keeps (fun _ => False) w w' := by
  have hi := isNone_no hm
  have hme : ∀ w : World, (method 179 52 (.agg #[.int .i64 p]) "braid/cm.patience").run Tryd.prog w = .ok (37, .agg #[.int .i64 p]) w := fun _ => by kernel_rfl
  go_enter Tryd.func10, Tryd.ntmps10
  go_wp2_with (first | (go_at_call 20; refine hi.mono ?_; rintro e w1 ⟨rfl, rfl⟩) | (go_at_call 37; refine (limPat _ _).mono ?_; rintro e w2 ⟨rfl, k2⟩))
  go_ret
  exact ⟨rfl, k2⟩
set_option maxHeartbeats 1600000 in
set_option maxRecDepth 1000000 in
theorem patience4 {w : World} {mb : Nat} {p : Int} (hm : w.cell? ⟨mb, 0, none⟩ = some (.iface 54 (.agg #[.int .i64 p]))) :
    Calls Tryd.prog 10 #[.pointer (some ⟨mb, 0, none⟩)] w fun e w' => e = .returned (.int .i64 p) ∧ Keeps (fun _ => False) w w' := by
  have hi := isNone_no hm
  have hme : ∀ w : World, (method 179 54 (.agg #[.int .i64 p]) "braid/cm.patience").run Tryd.prog w = .ok (48, .agg #[.int .i64 p]) w := fun _ => by kernel_rfl
  go_enter Tryd.func10, Tryd.ntmps10
  go_wp2_with (first | (go_at_call 20; refine hi.mono ?_; rintro e w1 ⟨rfl, rfl⟩) | (go_at_call 48; refine (oraPat _ _).mono ?_; rintro e w2 ⟨rfl, k2⟩))
  go_ret
  exact ⟨rfl, k2⟩
theorem patience_any {w : World} {mb k : Nat} {p : Int} (h : Mg w mb k p) : Calls Tryd.prog 10 #[.pointer (some ⟨mb, 0, none⟩)] w fun e w' => e = .returned (.int .i64 p) ∧ Keeps (fun _ => False) w w' := by
  obtain ⟨hk, _, hm⟩ := h
  match k, hk with
  | 0, _ => exact patience0 hm
  | 1, _ => exact patience1 hm
  | 2, _ => exact patience2 hm
  | 3, _ => exact patience3 hm
  | 4, _ => exact patience4 hm
theorem rname_any (w : World) {k : Nat} (hk : k < 5) : Calls Tryd.prog 12 #[.int .i64 (k : Int)] w fun e w' => e = .returned (.string (nmT k)) ∧ w' = w := by
  match k, hk with
  | 0, _ | 1, _ | 2, _ | 3, _ | 4, _ =>
    go_enter Tryd.func12, Tryd.ntmps12
    go_wp2
    go_ret
    exact ⟨rfl, rfl⟩
theorem rLook_any (w : World) {k : Nat} (hk : k < 5) : Calls Tryd.prog 14 #[.int .i64 (k : Int)] w fun e w' => e = .returned (.int .i64 (lkT k)) ∧ w' = w := by
  match k, hk with
  | 0, _ | 1, _ | 2, _ | 3, _ | 4, _ =>
    go_enter Tryd.func14, Tryd.ntmps14
    go_wp2
    go_ret
    exact ⟨rfl, rfl⟩
theorem rKeeps_any (w : World) {k : Nat} (hk : k < 5) : Calls Tryd.prog 16 #[.int .i64 (k : Int)] w fun e w' => e = .returned (.bool (kpT k)) ∧ w' = w := by
  match k, hk with
  | 0, _ | 1, _ | 2, _ | 3, _ | 4, _ =>
    go_enter Tryd.func16, Tryd.ntmps16
    go_wp2
    go_ret
    exact ⟨rfl, rfl⟩
theorem rFlags_any (w : World) {k : Nat} (hk : k < 5) : Calls Tryd.prog 18 #[.int .i64 (k : Int)] w fun e w' => e = .returned (.bool (flT k)) ∧ w' = w := by
  match k, hk with
  | 0, _ | 1, _ | 2, _ | 3, _ | 4, _ =>
    go_enter Tryd.func18, Tryd.ntmps18
    go_wp2
    go_ret
    exact ⟨rfl, rfl⟩
set_option maxHeartbeats 3200000 in
set_option maxRecDepth 1000000 in
theorem tells_ok {w : World} {mb k : Nat} {p : Int} (M : Mg w mb k p) (hT : TR w) : Calls Tryd.prog 6 #[.pointer (some ⟨mb, 0, none⟩), .agg #[.int .i64 (k : Int), .int .i64 p]] w fun e w' => e = .returned (.bool true) ∧ Keeps (fun _ => False) w w' := by
  have hk := M.1
  have hrn := fun W => rname_any W hk
  have hrl := fun W => rLook_any W hk
  have hrk := fun W => rKeeps_any W hk
  have hrf := fun W => rFlags_any W hk
  have hm1 := fun W (q : Keeps (fun _ => False) w W) => mName (M.keep q) (hT.keep q)
  have hm2 := fun W (q : Keeps (fun _ => False) w W) => mLook (M.keep q) (hT.keep q)
  have hm3 := fun W (q : Keeps (fun _ => False) w W) => mKeeps (M.keep q) (hT.keep q)
  have hm4 := fun W (q : Keeps (fun _ => False) w W) => mFlags (M.keep q) (hT.keep q)
  have hm5 := fun W (q : Keeps (fun _ => False) w W) => kind_any (M.keep q)
  have hm6 := fun W (q : Keeps (fun _ => False) w W) => patience_any (M.keep q)
  obtain ⟨w0, hw0⟩ : ∃ w0, w0 = w.alloc (.cells #[.int .i64 (k : Int), .int .i64 p] 30) := ⟨_, rfl⟩
  have KK : Keeps (fun _ => False) w w0 := by rw [hw0]; exact (Keeps.refl _ w).alloc _
  have D0 : w0.cell? ⟨w.heap.size, 0, none⟩ = some (.int .i64 (k : Int)) := by rw [hw0]; simp
  have D1 : w0.cell? ⟨w.heap.size, 1, none⟩ = some (.int .i64 p) := by rw [hw0]; simp
  generalize nmT k = n at *
  generalize lkT k = l at *
  generalize kpT k = kp at *
  generalize flT k = fl at *
  clear M hT hk
  go_enter Tryd.func6, Tryd.ntmps6
  go_wp2_with fail
  rw [← hw0]
  clear hw0
  have X0 := ks_cell D0
  have X1 := ks_cell D1
  have hk1 : ∀ U : KS w0, _ := fun U => hm1 U.val (KK.trans U.property)
  have hk2 : ∀ U : KS w0, _ := fun U => hm2 U.val (KK.trans U.property)
  have hk3 : ∀ U : KS w0, _ := fun U => hm3 U.val (KK.trans U.property)
  have hk4 : ∀ U : KS w0, _ := fun U => hm4 U.val (KK.trans U.property)
  have hk5 : ∀ U : KS w0, _ := fun U => hm5 U.val (KK.trans U.property)
  have hk6 : ∀ U : KS w0, _ := fun U => hm6 U.val (KK.trans U.property)
  have hk7 : ∀ U : KS w0, _ := fun U => hrn U.val
  have hk8 : ∀ U : KS w0, _ := fun U => hrl U.val
  have hk9 : ∀ U : KS w0, _ := fun U => hrk U.val
  have hk10 : ∀ U : KS w0, _ := fun U => hrf U.val
  have hNE : Nonempty (KS w0) := ⟨⟨w0, Keeps.refl _ w0⟩⟩
  refine wp_region_ks (by kernel_rfl) (by kernel_rfl) ?_
  repeat (go_big_quiet_step (first | (go_at_call 11; (with_reducible refine (hk1 _).mono ?_); rintro e w9 ⟨rfl, k9⟩; exact ⟨rfl, ⟨_, (KS.property _).trans k9⟩, rfl⟩) | (go_at_call 13; (with_reducible refine (hk2 _).mono ?_); rintro e w9 ⟨rfl, k9⟩; exact ⟨rfl, ⟨_, (KS.property _).trans k9⟩, rfl⟩) | (go_at_call 15; (with_reducible refine (hk3 _).mono ?_); rintro e w9 ⟨rfl, k9⟩; exact ⟨rfl, ⟨_, (KS.property _).trans k9⟩, rfl⟩) | (go_at_call 17; (with_reducible refine (hk4 _).mono ?_); rintro e w9 ⟨rfl, k9⟩; exact ⟨rfl, ⟨_, (KS.property _).trans k9⟩, rfl⟩) | (go_at_call 9; (with_reducible refine (hk5 _).mono ?_); rintro e w9 ⟨rfl, k9⟩; exact ⟨rfl, ⟨_, (KS.property _).trans k9⟩, rfl⟩) | (go_at_call 10; (with_reducible refine (hk6 _).mono ?_); rintro e w9 ⟨rfl, k9⟩; exact ⟨rfl, ⟨_, (KS.property _).trans k9⟩, rfl⟩) | (go_at_call 12; (with_reducible refine (hk7 _).mono ?_); rintro e w9 ⟨rfl, rfl⟩; exact ⟨rfl, ⟨_, KS.property _⟩, rfl⟩) | (go_at_call 14; (with_reducible refine (hk8 _).mono ?_); rintro e w9 ⟨rfl, rfl⟩; exact ⟨rfl, ⟨_, KS.property _⟩, rfl⟩) | (go_at_call 16; (with_reducible refine (hk9 _).mono ?_); rintro e w9 ⟨rfl, rfl⟩; exact ⟨rfl, ⟨_, KS.property _⟩, rfl⟩) | (go_at_call 18; (with_reducible refine (hk10 _).mono ?_); rintro e w9 ⟨rfl, rfl⟩; exact ⟨rfl, ⟨_, KS.property _⟩, rfl⟩)))
  refine wpQuiet_nil ?_
  rintro _ ⟨U, rfl⟩
  have K1 := KK.trans U.property
  have E0 := U.property.cell D0 id
  have E1 := U.property.cell D1 id
  clear X0 X1 hk1 hk2 hk3 hk4 hk5 hk6 hk7 hk8 hk9 hk10 hNE KK D0 D1
  generalize U.val = w1 at *
  have KK := K1
  have D0 := E0
  have D1 := E1
  clear K1 E0 E1
  go_wp2_with fail
  have X0 := ks_cell D0
  have X1 := ks_cell D1
  have hk1 : ∀ U : KS w1, _ := fun U => hm1 U.val (KK.trans U.property)
  have hk2 : ∀ U : KS w1, _ := fun U => hm2 U.val (KK.trans U.property)
  have hk3 : ∀ U : KS w1, _ := fun U => hm3 U.val (KK.trans U.property)
  have hk4 : ∀ U : KS w1, _ := fun U => hm4 U.val (KK.trans U.property)
  have hk5 : ∀ U : KS w1, _ := fun U => hm5 U.val (KK.trans U.property)
  have hk6 : ∀ U : KS w1, _ := fun U => hm6 U.val (KK.trans U.property)
  have hk7 : ∀ U : KS w1, _ := fun U => hrn U.val
  have hk8 : ∀ U : KS w1, _ := fun U => hrl U.val
  have hk9 : ∀ U : KS w1, _ := fun U => hrk U.val
  have hk10 : ∀ U : KS w1, _ := fun U => hrf U.val
  have hNE : Nonempty (KS w1) := ⟨⟨w1, Keeps.refl _ w1⟩⟩
  refine wp_region_ks (by kernel_rfl) (by kernel_rfl) ?_
  repeat (go_big_quiet_step (first | (go_at_call 11; (with_reducible refine (hk1 _).mono ?_); rintro e w9 ⟨rfl, k9⟩; exact ⟨rfl, ⟨_, (KS.property _).trans k9⟩, rfl⟩) | (go_at_call 13; (with_reducible refine (hk2 _).mono ?_); rintro e w9 ⟨rfl, k9⟩; exact ⟨rfl, ⟨_, (KS.property _).trans k9⟩, rfl⟩) | (go_at_call 15; (with_reducible refine (hk3 _).mono ?_); rintro e w9 ⟨rfl, k9⟩; exact ⟨rfl, ⟨_, (KS.property _).trans k9⟩, rfl⟩) | (go_at_call 17; (with_reducible refine (hk4 _).mono ?_); rintro e w9 ⟨rfl, k9⟩; exact ⟨rfl, ⟨_, (KS.property _).trans k9⟩, rfl⟩) | (go_at_call 9; (with_reducible refine (hk5 _).mono ?_); rintro e w9 ⟨rfl, k9⟩; exact ⟨rfl, ⟨_, (KS.property _).trans k9⟩, rfl⟩) | (go_at_call 10; (with_reducible refine (hk6 _).mono ?_); rintro e w9 ⟨rfl, k9⟩; exact ⟨rfl, ⟨_, (KS.property _).trans k9⟩, rfl⟩) | (go_at_call 12; (with_reducible refine (hk7 _).mono ?_); rintro e w9 ⟨rfl, rfl⟩; exact ⟨rfl, ⟨_, KS.property _⟩, rfl⟩) | (go_at_call 14; (with_reducible refine (hk8 _).mono ?_); rintro e w9 ⟨rfl, rfl⟩; exact ⟨rfl, ⟨_, KS.property _⟩, rfl⟩) | (go_at_call 16; (with_reducible refine (hk9 _).mono ?_); rintro e w9 ⟨rfl, rfl⟩; exact ⟨rfl, ⟨_, KS.property _⟩, rfl⟩) | (go_at_call 18; (with_reducible refine (hk10 _).mono ?_); rintro e w9 ⟨rfl, rfl⟩; exact ⟨rfl, ⟨_, KS.property _⟩, rfl⟩)))
  refine wpQuiet_nil ?_
  rintro _ ⟨V, rfl⟩
  have K2 := KK.trans V.property
  clear X0 X1 hk1 hk2 hk3 hk4 hk5 hk6 hk7 hk8 hk9 hk10 hNE KK D0 D1
  generalize V.val = w2 at *
  go_wp2_with fail
  go_ret
  exact ⟨rfl, K2⟩
end Go.Proofs.YtmcchconnfoffacDoor
