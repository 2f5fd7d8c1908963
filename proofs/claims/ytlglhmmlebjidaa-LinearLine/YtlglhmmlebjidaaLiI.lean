import Derived.Test.YtlglhmmlebjidaaLiH
namespace Go.Proofs.Ytlglhmmlebjidaa
open Go.RowKit
theorem with_lt : ∀ {P : List Int} {k : Int} (Q : List Int), (∀ y ∈ P, y < k) → withL (P ++ Q) k = P ++ withL Q k
  | [], _, _, _ => rfl
  | y :: P, k, Q, h => by
    show withL (y :: (P ++ Q)) k = y :: (P ++ withL Q k)
    unfold withL
    rw [if_pos (h y (by simp)), with_lt Q (fun z hz => h z (by simp [hz]))]
    cases Q <;> rfl
theorem with_ge : ∀ {P : List Int} {k x : Int}, (∃ y ∈ P, k ≤ y) → withL (P ++ [x]) k = withL P k ++ [x]
  | [], _, _, h => by obtain ⟨y, hy, _⟩ := h; cases hy
  | y :: P, k, x, h => by
    show withL (y :: (P ++ [x])) k = withL (y :: P) k ++ [x]
    by_cases c : y < k
    · obtain ⟨z, hz, hk⟩ := h
      have hz' : z ∈ P := by
        rcases List.mem_cons.1 hz with e | e
        · omega
        · exact e
      have ih := with_ge (x := x) ⟨z, hz', hk⟩
      simp only [withL, if_pos c, ih, List.cons_append]
    · by_cases d : y = k
      · simp only [withL, if_neg c, if_pos d, List.cons_append]
      · simp only [withL, if_neg c, if_neg d, List.cons_append]
/-- The set with the number, so far: P has been looked at. -/
def WI (P : List Int) (k : Int) (done : Bool) (m : Nat) (L : List Int) : Prop :=
  m = L.length ∧ (done = false → (∀ y ∈ P, y < k) ∧ L = P) ∧ (done = true → (∃ y ∈ P, k ≤ y) ∧ L = withL P k)
set_option maxHeartbeats 600000 in
set_option maxRecDepth 100000 in
theorem with_any {w : World} {a : Option Addr} {cap : Nat} {S : List Int} (hl : KL w a S) (hrs : Rise S) (hn : S.length ≤ 17592186044000) (k : Int) : Calls Try.prog 47 #[.slice a S.length cap, .int .i64 k] w fun e w' => ∃ v, e = .returned v ∧ w'.ownsRow w.heap.size 2 1 v (withL S k).length (kvs (withL S k)) ∧ Keeps (fun _ => False) w w' := by
  have HL : Hid (KL w a S) := hl
  have HRS : Hid (Rise S) := hrs
  clear hl hrs
  generalize hN : S.length = N at *
  have HN : Hid (S.length = N) := hN
  clear hN
  go_enter Try.func47, Try.ntmps47
  go_wp2_with fail
  go_loopw [5, 6, 7] (fun lv dv iv Wr => ∃ (i m : Nat) (dn : Bool), dv = .bool dn ∧ iv = .int .i64 (i : Int) ∧ i ≤ N ∧ m ≤ i + 1 ∧ (∃ L, Wr.ownsRow w.heap.size 2 1 lv m (kvs L) ∧ WI (S.take i) k dn m L) ∧ Keeps (fun _ => False) w Wr) (fun _ _ iv _ => N - (intOf iv).toNat)
  case atStart => exact ⟨0, 0, false, rfl, rfl, Nat.zero_le _, by omega, ⟨[], World.ownsRow_nil _ _ _ _, rfl, fun _ => ⟨by simp, by simp⟩, fun e => by cases e⟩, Keeps.refl _ _⟩
  case round =>
    obtain ⟨i, m, dn, rfl, rfl, hi, hmi, ⟨L, hO, hW⟩, kr⟩ := hrel
    obtain ⟨al, cl, rfl, -⟩ := own_slice hO
    by_cases hlt : i < N
    · have j1 : decide ((i : Int) < (N : Int)) = true := decide_eq_true (by omega)
      have j2 : decide (i < N) = true := decide_eq_true hlt
      have j3 : (i : Int) < (N : Int) := by omega
      have j4 : (0 : Int) ≤ (i : Int) := by omega
      have hwi : IntKind.i64.wrap ((i : Int) + 1) = (i : Int) + 1 := by rw [IntKind.wrap_i64]; omega
      have hiS : i < S.length := by rw [HN.out]; exact hlt
      obtain ⟨b, off, rfl, hc⟩ := HL.out i hiS
      have c0 := kr.cell hc (fun e => e)
      have HTK : Hid (S.take (i + 1) = S.take i ++ [S.getD i 0]) := take_next hiS
      have HGT : Hid (∀ y ∈ S.take i, y < S.getD i 0) := fun y hy => by
        have h := HRS.out
        rw [← List.take_append_drop (i + 1) S, HTK.out] at h
        have h := (List.pairwise_append.1 h).1
        exact (List.pairwise_append.1 h).2.2 y hy _ (by simp)
      have hz := kr.size
      clear hc hiS
      generalize S.getD i 0 = x at *
      obtain ⟨w1, w2, w3⟩ := hW
      cases dn with
      | true =>
        obtain ⟨⟨y, hy, hky⟩, hLe⟩ := w3 rfl
        have hyx := HGT.out y hy
        have q : (x != k) = true := by simp; omega
        have q' : (x == k) = false := by simp; omega
        obtain ⟨a2, c2, W2, hr2, hO2, k2⟩ := append_k hO hz (by omega) x
        have HR : Hid (∃ L, W2.ownsRow w.heap.size 2 1 (.slice a2 (m + 1) c2) (m + 1) (kvs L) ∧ WI (S.take (i + 1)) k true (m + 1) L) := ⟨_, hO2, by rw [List.length_append, ← w1]; rfl, (fun e => by cases e), fun _ => ⟨⟨y, by rw [HTK.out]; simp [hy], hky⟩, by rw [HTK.out, with_ge ⟨y, hy, hky⟩, hLe]⟩⟩
        have K2 : Keeps (fun _ => False) w W2 := kr.trans' k2 (fun _ _ e => e) (fun j hj e => by have e : w.heap.size ≤ j := e; omega)
        clear hO w1 w2 w3 hLe hO2 k2 hz hy hky hyx HGT HTK
        go_wp2_with (at_builtin; refine wpList_append_tL rfl _ _ _ rfl _ _ _ W2 rfl rfl hr2 ?_; clear hr2)
        go_roundw
        case rel => exact ⟨i + 1, m + 1, true, rfl, by go_num, by omega, by omega, HR.out, K2⟩
        case measure => simp [intOf]; omega
      | false =>
        obtain ⟨hall, hLe⟩ := w2 rfl
        have hmP : m = (S.take i).length := by rw [w1, hLe]
        have hmi2 : m ≤ i := by rw [hmP, List.length_take]; omega
        rcases (by omega : x < k ∨ x = k ∨ k < x) with hx | hx | hx
        · have q : (x != k) = true := by simp; omega
          have q' : (x == k) = false := by simp; omega
          have q2 : decide (k ≤ x) = false := decide_eq_false (by omega)
          obtain ⟨a2, c2, W2, hr2, hO2, k2⟩ := append_k hO hz (by omega) x
          have HR : Hid (∃ L, W2.ownsRow w.heap.size 2 1 (.slice a2 (m + 1) c2) (m + 1) (kvs L) ∧ WI (S.take (i + 1)) k false (m + 1) L) := ⟨_, hO2, by rw [List.length_append, ← w1]; rfl, (fun _ => ⟨fun y hy => by
            rw [HTK.out] at hy
            rcases List.mem_append.1 hy with hy | hy
            · exact hall y hy
            · simp at hy; omega, by rw [HTK.out, hLe]⟩), fun e => by cases e⟩
          have K2 : Keeps (fun _ => False) w W2 := kr.trans' k2 (fun _ _ e => e) (fun j hj e => by have e : w.heap.size ≤ j := e; omega)
          clear hO w1 w2 w3 hLe hO2 k2 hz hall HGT HTK hmP
          go_wp2_with (at_builtin; refine wpList_append_tL rfl _ _ _ rfl _ _ _ W2 rfl rfl hr2 ?_; clear hr2)
          go_roundw
          case rel => exact ⟨i + 1, m + 1, false, rfl, by go_num, by omega, by omega, HR.out, K2⟩
          case measure => simp [intOf]; omega
        · have q : (x != k) = false := by simp [hx]
          have q' : (x == k) = true := by simp [hx]
          have q2 : decide (k ≤ x) = true := decide_eq_true (by omega)
          obtain ⟨a2, c2, W2, hr2, hO2, k2⟩ := append_k hO hz (by omega) k
          have HR : Hid (∃ L, W2.ownsRow w.heap.size 2 1 (.slice a2 (m + 1) c2) (m + 1) (kvs L) ∧ WI (S.take (i + 1)) k true (m + 1) L) := ⟨_, hO2, by rw [List.length_append, ← w1]; rfl, (fun e => by cases e), fun _ => ⟨⟨x, by rw [HTK.out]; simp, by omega⟩, by
            rw [HTK.out, with_lt _ hall, hLe]
            unfold withL
            rw [if_neg (by omega), if_pos hx, hx]⟩⟩
          have K2 : Keeps (fun _ => False) w W2 := kr.trans' k2 (fun _ _ e => e) (fun j hj e => by have e : w.heap.size ≤ j := e; omega)
          have c0 := k2.cell c0 (fun e => by have e : w.heap.size ≤ b := e; have hb : b < w.heap.size := (by obtain ⟨b', off', e', h'⟩ := HL.out i (by rw [HN.out]; omega); injection e' with e'; injection e' with e1 e2; subst e1; exact World.block_lt_of_cell? _ _ h'); omega)
          clear hO w1 w2 w3 hLe hO2 k2 hz hall HGT HTK hmP hx
          go_wp2_with (at_builtin; refine wpList_append_tL rfl _ _ _ rfl _ _ _ W2 rfl rfl hr2 ?_; clear hr2)
          go_roundw
          case rel => exact ⟨i + 1, m + 1, true, rfl, by go_num, by omega, by omega, HR.out, K2⟩
          case measure => simp [intOf]; omega
        · have q : (x != k) = true := by simp; omega
          have q' : (x == k) = false := by simp; omega
          have q2 : decide (k ≤ x) = true := decide_eq_true (by omega)
          obtain ⟨a2, c2, W2, hr2, hO2, k2⟩ := append_k hO hz (by omega) k
          obtain ⟨a3, c3, W3, hr3, hO3, k3⟩ := append_k hO2 (Nat.le_trans hz k2.size) (by omega) x
          have HR : Hid (∃ L, W3.ownsRow w.heap.size 2 1 (.slice a3 (m + 1 + 1) c3) (m + 1 + 1) (kvs L) ∧ WI (S.take (i + 1)) k true (m + 1 + 1) L) := ⟨_, hO3, by rw [List.length_append, List.length_append, ← w1]; rfl, (fun e => by cases e), fun _ => ⟨⟨x, by rw [HTK.out]; simp, by omega⟩, by
            rw [HTK.out, with_lt _ hall, hLe]
            unfold withL
            rw [if_neg (by omega), if_neg (by omega), List.append_assoc]
            rfl⟩⟩
          have K2 : Keeps (fun _ => False) w W3 := (kr.trans' k2 (U := fun _ => False) (fun _ _ e => e) (fun j hj e => by have e : w.heap.size ≤ j := e; omega)).trans' k3 (fun _ _ e => e) (fun j hj e => by have e : w.heap.size ≤ j := e; omega)
          have c02 := k2.cell c0 (fun e => by have e : w.heap.size ≤ b := e; have hb : b < w.heap.size := (by obtain ⟨b', off', e', h'⟩ := HL.out i (by rw [HN.out]; omega); injection e' with e'; injection e' with e1 e2; subst e1; exact World.block_lt_of_cell? _ _ h'); omega)
          clear hO w1 w2 w3 hLe hO2 k2 hO3 k3 hz hall HGT HTK hmP
          go_wp2_with (first | (at_builtin; refine wpList_append_tL rfl _ _ _ rfl _ _ _ W2 rfl rfl hr2 ?_; clear hr2) | (at_builtin; refine wpList_append_tL rfl _ _ _ rfl _ _ _ W3 rfl rfl hr3 ?_; clear hr3))
          go_roundw
          case rel => exact ⟨i + 1, m + 1 + 1, true, rfl, by go_num, by omega, by omega, HR.out, K2⟩
          case measure => simp [intOf]; omega
    · have j1 : decide ((i : Int) < (N : Int)) = false := decide_eq_false (by omega)
      have j2 : decide (i < N) = false := decide_eq_false hlt
      have e : S.take i = S := List.take_of_length_le (by rw [HN.out]; omega)
      rw [e] at hW
      obtain ⟨w1, w2, w3⟩ := hW
      have hz := kr.size
      cases dn with
      | true =>
        have HR : Hid (wr.ownsRow w.heap.size 2 1 (.slice al m cl) (withL S k).length (kvs (withL S k))) := by
          have e2 := (w3 rfl).2
          rw [w1] at hO ⊢
          rw [e2] at hO ⊢
          exact hO
        clear hO w1 w2 w3
        go_wp2_with fail
        go_ret
        exact ⟨_, rfl, HR.out, kr⟩
      | false =>
        obtain ⟨hall, hLe⟩ := w2 rfl
        have hmi2 : m ≤ N := by rw [w1, hLe, HN.out]; omega
        obtain ⟨a2, c2, W2, hr2, hO2, k2⟩ := append_k hO hz (by omega) k
        have HR : Hid (W2.ownsRow w.heap.size 2 1 (.slice a2 (m + 1) c2) (withL S k).length (kvs (withL S k))) := by
          have e3 : withL S k = S ++ [k] := by
            have := with_lt (P := S) (k := k) [] hall
            rw [List.append_nil] at this
            exact this
          rw [e3, List.length_append, ← hLe, ← w1]
          exact hO2
        have K2 : Keeps (fun _ => False) w W2 := kr.trans' k2 (fun _ _ e => e) (fun j hj e => by have e : w.heap.size ≤ j := e; omega)
        clear hO w1 w2 w3 hLe hO2 k2 hz hall e
        go_wp2_with (at_builtin; refine wpList_append_tL rfl _ _ _ rfl _ _ _ W2 rfl rfl hr2 ?_; clear hr2)
        go_ret
        exact ⟨_, rfl, HR.out, K2⟩
end Go.Proofs.Ytlglhmmlebjidaa
