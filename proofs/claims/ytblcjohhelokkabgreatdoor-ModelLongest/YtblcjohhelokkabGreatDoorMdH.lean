import Derived.Test.YtblcjohhelokkabGreatDoorMdG
namespace Go.Proofs.YtblcjohhelokkabGreatDoor
open Go.RowKit
attribute [local go_sem] Oper.semAt_some run_store_nf run_store_f
set_option maxHeartbeats 1000000 in
set_option maxRecDepth 1000000 in
theorem left_any {w : World} {B : Nat} {a : Option Addr} {cap : Nat} {gv : Value} {os : List Int} {s : Rs} (h : RM w B (.slice a os.length cap) gv s) (hO : OBJ w B a os) (h16 : os.length ≤ 16) : Calls Tryz.prog 25 #[.pointer (some ⟨B, 0, none⟩)] w fun e w' => e = .returned (.slice (some ⟨w.heap.size, 0, none⟩) os.length os.length) ∧ CL w' w.heap.size (nvs (lft os s os.length)) ∧ Keeps (fun _ => False) w w' ∧ w'.heap.size = w.heap.size + 1 := by
  obtain ⟨W2, hr, C2, K2, hs2⟩ := copied cap hO
  have hmk : ∀ W : World, (Instr.makeSlice 23 (.int .i64 (os.length : Int)) (.int .i64 (os.length : Int))).run Tryz.prog W = .ok (.slice (some ⟨W.heap.size, 0, none⟩) os.length os.length) (W.alloc (.cells (madeCells #[.int .i64 0] os.length) 2)) := fun W => run_make_row' (P := Tryz.prog) 23 2 (.int .i64 0) 8 Tryz.underlying23 i64infoM rfl .i64 .i64 os.length (by omega) (by omega) W
  have H2 := h.keep K2 (fun e => e)
  have c0 := h.o
  have c0' : (w.alloc (.cells (madeCells #[.int .i64 0] os.length) 2)).cell? ⟨B, 0, none⟩ = some (.slice a os.length cap) := ((Keeps.refl (fun _ => False) w).alloc _).cell c0 (fun e => e)
  have hlt := h.lt
  have c2 := H2.c
  clear hO h
  by_cases hoc : s.oc = 1
  · have hf : ¬ (s.oc ≠ 1) := fun e => e hoc
    have hb : (s.oc != 1) = false := by simp [hoc]
    have hL0 := lft_0 os s
    have hLs : ∀ k, ¬ s.st k = 2 → nvs (lft os s (k + 1)) = nvs (lft os s k) := fun k e => by rw [lft_same os s e]
    have hLt : ∀ k, s.st k = 2 → nvs (lft os s (k + 1)) = (nvs (lft os s k)).set k (.int .i64 (s.nm k)) := fun k e => lft_set os s hoc e
    have hLl : ∀ k, (nvs (lft os s k)).length = os.length := fun k => by unfold nvs; rw [List.length_map, lft_len]
    generalize hN : os.length = N at *
    go_enter Tryz.func25, Tryz.ntmps25
    go_wp2
    go_loopw [25] (fun iv Wr => ∃ k : Nat, iv = .int .i64 (k : Int) ∧ k ≤ N ∧ CL Wr w.heap.size (nvs (lft os s k)) ∧ RM Wr B (.slice a N cap) gv s ∧ Keeps (fun _ => False) w Wr ∧ Wr.heap.size = w.heap.size + 1) (fun iv _ => N - (intOf iv).toNat)
    case atStart => exact ⟨0, rfl, Nat.zero_le _, by rw [hL0]; exact C2, H2, K2, hs2⟩
    case round =>
      obtain ⟨k, rfl, hk, hC, hM, kr, hsz⟩ := hrel
      by_cases hlt2 : k < N
      · have hltI : decide ((k : Int) < (N : Int)) = true := by simp; omega
        have hltJ : (k : Int) < (N : Int) := by omega
        have hk0 : (0 : Int) ≤ (k : Int) := by omega
        have hk16 : (k : Int) < 16 := by omega
        have ct := hM.t k (by omega)
        have cn := hM.n k (by omega)
        by_cases h2 : s.st k = 2
        · rw [h2] at ct
          have hz := hC.z k (by rw [hLl]; exact hlt2)
          have hcc := hC.c k _ (List.getElem?_eq_getElem (by rw [hLl]; exact hlt2))
          have hC2 := hC.set (o := k) (by rw [hLl]; exact hlt2) (.int .i64 (s.nm k))
          rw [← hLt k h2] at hC2
          have kS : Keeps (fun i => i = w.heap.size) wr (wr.setCell ⟨w.heap.size, k, none⟩ (.int .i64 (s.nm k))) := (Keeps.refl _ wr).setA k _
          have hM2 := hM.keep kS (by show ¬ B = w.heap.size; omega)
          have kr2 : Keeps (fun _ => False) w (wr.setCell ⟨w.heap.size, k, none⟩ (.int .i64 (s.nm k))) := kr.trans' kS (fun _ _ e => e) (fun i hi e => by have e : i = w.heap.size := e; omega)
          generalize (nvs (lft os s k))[k]'(by rw [hLl]; exact hlt2) = old at *
          clear hC hLs hLt hr hmk
          go_wp2
          go_roundw
          case rel => exact ⟨k + 1, by go_num, by omega, hC2, hM2, kr2, by simpa using hsz⟩
          case measure => simp [intOf]; omega
        · have h2b : (s.st k == 2) = false := by simpa using h2
          have e2 := hLs k h2
          clear hLs hLt hr hmk
          go_wp2
          go_roundw
          case rel => exact ⟨k + 1, by go_num, by omega, by rw [e2]; exact hC, hM, kr, hsz⟩
          case measure => simp [intOf]; omega
      · have hltI : decide ((k : Int) < (N : Int)) = false := by simp; omega
        have e : k = N := by omega
        subst e
        clear hLs hLt hr hmk
        go_wp2
        go_ret
        exact ⟨rfl, hC, kr, hsz⟩
  · have hb : (s.oc != 1) = true := by simpa using hoc
    rw [lft_no os s _ hoc]
    generalize os.length = N at *
    go_enter Tryz.func25, Tryz.ntmps25
    go_wp2
    go_ret
    exact ⟨rfl, C2, K2, hs2⟩
end Go.Proofs.YtblcjohhelokkabGreatDoor
