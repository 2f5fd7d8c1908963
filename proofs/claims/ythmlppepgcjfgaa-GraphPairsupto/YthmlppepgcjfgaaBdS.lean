import Derived.Test.YthmlppepgcjfgaaBdR
import Derived.Test.YthmlppepgcjfgaaBdP
namespace Go.Proofs.Ythmlppepgcjfgaa
open Go.RowKit Go.Deep
attribute [local go_sem] Oper.semAt_some run_store_nf run_store_f
theorem soE : SoE := fun _ _ _ _ _ h hn => sortE_all h hn
/-- What Build is given. -/
structure TsI (ts : List Tv) : Prop where
  l : ts.length ≤ 1048576
  s : sumT ts ≤ 1048576
  e : ∀ i, i < ts.length → I64 (ts.getD i tv0).end_
  i : ∀ i, i < ts.length → (∀ s ∈ (ts.getD i tv0).saws, I64 s.object) ∧ (∀ q ∈ (ts.getD i tv0).wrs, I64 q.object)
set_option maxHeartbeats 1500000 in
set_option maxRecDepth 100000 in
theorem Build_any {w : World} {a : Option Addr} {cap : Nat} {ts : List Tv} {p : Nat → Lp} (hT : TXM w a ts p) (hI : TsI ts) : Calls Try.prog 5 #[.slice a ts.length cap] w (BuP ts w) := by
  have hms := mayStand_any (cap := cap) hT hI.l hI.e
  have HNO : Hid (∀ W, ¬ MayT ts → Keeps (fun _ => False) w W → BuP ts w (.returned (.tuple #[.slice none 0 0, .int .i64 160])) W) := fun W h k => ⟨none, 0, [], 160, rfl, World.ownsRow_nil _ _ _ _, .inl ⟨h, rfl, rfl⟩, k⟩
  by_cases h4 : 4096 < ts.length
  · have HX : Hid (∀ W, Keeps (fun _ => False) w W → BuP ts w (.returned (.tuple #[.slice none 0 0, .int .i64 160])) W) := fun W k => HNO.out W (fun q => by have := q.1; omega) k
    have d1 : decide ((ts.length : Int) > 4096) = true := decide_eq_true (by omega)
    have d2 : decide (4096 < (ts.length : Int)) = true := decide_eq_true (by omega)
    have d3 : decide (4096 < ts.length) = true := decide_eq_true h4
    clear HNO hms h4
    generalize ts.length = N at *
    go_enter Try.func5, Try.ntmps5
    go_wp2_with fail
    go_ret2
    exact HX.out _ (Keeps.refl _ _)
  · have hB : TsB ts := ⟨by omega, hI.s, hI.i⟩
    have d1 : decide ((ts.length : Int) > 4096) = false := decide_eq_false (by omega)
    have d2 : decide (4096 < (ts.length : Int)) = false := decide_eq_false (by omega)
    have d3 : decide (4096 < ts.length) = false := decide_eq_false h4
    have HCO : Hid (∀ W, Keeps (fun _ => False) w W → Calls Try.prog 12 #[.slice a ts.length cap] W fun e w' => ∃ a' n' c', e = .returned (.slice a' n' c') ∧ Keeps (fun _ => False) W w' ∧ Calls Try.prog 11 #[.slice a' n' c'] w' (BeP w' ts)) := fun W k => (committed_any once_any (hT.keep k) hB).mono (by
      rintro e w' ⟨a', c', P, rfl, h1, h2, h3, h4⟩
      exact ⟨a', _, c', rfl, h4, between_any soE h1 h2 (BeI.of hB h3 (fun q hq => (h2 q hq).o))⟩)
    have HYE : Hid (∀ W W' la ln lc l, MayT ts → Keeps (fun _ => False) w W → OE W.heap.size W' (.slice la ln lc) ln l → SrtE l → (∀ e, e ∈ l ↔ EdA ts e) → Keeps (fun _ => False) W W' → BuP ts w (.returned (.tuple #[.slice la ln lc, .int .i64 0])) W') := fun W W' la ln lc l hm k h1 h2 h3 k2 => by
      obtain ⟨o1, rfl⟩ := h1
      exact ⟨la, lc, l, 0, rfl, owns_low o1 k.size, .inr ⟨hm, rfl, h2, h3⟩, k.trans k2⟩
    have hms2 : Calls Try.prog 10 #[.slice a ts.length cap] w fun e w' => ∃ r : Bool, e = .returned (.bool r) ∧ (r = true ↔ MayT ts) ∧ Keeps (fun _ => False) w w' := hms.mono (by
      rintro e w' ⟨r, rfl, hr, k⟩
      exact ⟨r, rfl, hr.trans ⟨fun h => ⟨by omega, h⟩, fun h => h.2⟩, k⟩)
    clear hms
    clear h4 hB hI hT
    generalize ts.length = N at *
    go_enter Try.func5, Try.ntmps5
    refine wp_seq_k (fun KK hKK => ?_)
    have hKH : Hid _ := hKK
    clear hKK
    go_wp2_with fail
    refine hKH.out _ _ ?_
    clear hKH KK
    refine wp_seq_k (fun KK hKK => ?_)
    have hKH : Hid _ := hKK
    clear hKK
    refine wp_seq_k (fun KK2 hKK2 => ?_)
    have hKH2 : Hid _ := hKK2
    clear hKK2
    go_wp2_with (go_at_call 10; refine hms2.mono ?_; clear hms2; rintro e w3 ⟨r, rfl, hr, k3⟩; have HMR : Hid (r = true ↔ MayT ts) := hr; clear hr)
    refine hKH2.out _ _ ?_
    clear hKH2 KK2
    cases r
    · have HX : Hid (BuP ts w (.returned (.tuple #[.slice none 0 0, .int .i64 160])) w3) := HNO.out w3 (fun q => by have := HMR.out.2 q; cases this) k3
      clear HNO HMR HYE HCO k3 hKH
      go_wp2_with fail
      go_ret2
      exact HX.out
    · have HMY : Hid (MayT ts) := HMR.out.1 rfl
      have hco := HCO.out w3 k3
      clear HNO HMR HCO
      go_wp2_with fail
      refine hKH.out _ _ ?_
      clear hKH KK
      go_wp2_with (first | (go_at_call 12; refine hco.mono ?_; clear hco; rintro e w5 ⟨a', n', c', rfl, c4, hbe⟩) | (go_at_call 11; refine hbe.mono ?_; clear hbe; rintro e w6 ⟨la, ln, lc, l, rfl, b1, b2, b3, b4⟩; have HX : Hid (BuP ts w (.returned (.tuple #[.slice la ln lc, .int .i64 0])) w6) := HYE.out w5 w6 la ln lc l HMY.out (k3.trans c4) b1 b2 b3 b4; clear b1 b2 b3 b4))
      go_ret2
      exact HX.out
end Go.Proofs.Ythmlppepgcjfgaa
