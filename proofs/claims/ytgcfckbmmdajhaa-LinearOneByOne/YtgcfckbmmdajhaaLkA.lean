import Derived.Test.YtgcfckbmmdajhaaLjF
namespace Go.Proofs.Ytgcfckbmmdajhaa
open Go.RowKit
attribute [local go_sem] Oper.semAt_some run_store_nf run_store_f
/-- The law's set in memory: its block sb, its numbers U in the list v. -/
structure SU (base : Nat) (W : World) (sb : Nat) (U : List Int) (v : Value) : Prop where
  c : CL W sb [v]
  o : W.ownsRow base 2 1 v U.length (kvs U)
  lt : sb < base
  bs : base ≤ W.heap.size
theorem SU.keep {base : Nat} {W W' : World} {sb : Nat} {U : List Int} {v : Value} (h : SU base W sb U v) (k : Keeps (fun _ => False) W W') : SU base W' sb U v := ⟨h.c.keep (by show 0 < 1; decide) k (fun e => e), k.owns h.o (fun _ _ e => e), h.lt, Nat.le_trans h.bs k.size⟩
theorem SU.form {base : Nat} {W : World} {sb : Nat} {U : List Int} {v : Value} (h : SU base W sb U v) : ∃ ua uc, v = .slice ua U.length uc ∧ KL W ua U := by
  obtain ⟨a, c, h1, h2, -, -⟩ := kl_of h.o
  exact ⟨a, c, h1, h2⟩
set_option maxHeartbeats 1000000 in
set_option maxRecDepth 100000 in
theorem uhas_any {base : Nat} {w : World} {sb : Nat} {U : List Int} {v : Value} (h : SU base w sb U v) (hn : U.length ≤ 1000000) (k : Int) : Calls Try.prog 13 #[.pointer (some ⟨sb, 0, none⟩), .int .i64 k] w fun e w' => e = .returned (.bool (decide (k ∈ U))) ∧ Keeps (fun _ => False) w w' := by
  obtain ⟨ua, uc, rfl, hk⟩ := h.form
  have e0 := h.c.c 0 _ rfl
  have HL : Hid (KL w ua U) := hk
  clear hk h
  generalize hN : U.length = N at *
  have HN : Hid (U.length = N) := hN
  clear hN
  go_enter Try.func13, Try.ntmps13
  go_wp2_with fail
  go_loopw [5] (fun iv Wr => ∃ (i : Nat), iv = .int .i64 (i : Int) ∧ i ≤ N ∧ k ∉ U.take i ∧ Keeps (fun _ => False) w Wr) (fun iv _ => N - (intOf iv).toNat)
  case atStart => exact ⟨0, rfl, Nat.zero_le _, by simp, Keeps.refl _ _⟩
  case round =>
    obtain ⟨i, rfl, hi, hno, kr⟩ := hrel
    have HNO : Hid (k ∉ U.take i) := hno
    clear hno
    have e1 := kr.cell e0 (fun e => e)
    by_cases hlt : i < N
    · have j1 : decide ((i : Int) < (N : Int)) = true := decide_eq_true (by omega)
      have j2 : decide (i < N) = true := decide_eq_true hlt
      have j3 : (i : Int) < (N : Int) := by omega
      have j4 : (0 : Int) ≤ (i : Int) := by omega
      have hwi : IntKind.i64.wrap ((i : Int) + 1) = (i : Int) + 1 := by rw [IntKind.wrap_i64]; omega
      have hiS : i < U.length := by rw [HN.out]; exact hlt
      obtain ⟨b, off, rfl, hc⟩ := HL.out i hiS
      have c0 := kr.cell hc (fun e => e)
      have HTK : Hid (U.take (i + 1) = U.take i ++ [U.getD i 0]) := take_next hiS
      have HME : Hid (U.getD i 0 ∈ U) := by
        show _ ∈ _
        rw [List.getD_eq_getElem?_getD, List.getElem?_eq_getElem hiS]
        exact List.getElem_mem hiS
      clear hc hiS
      generalize U.getD i 0 = x at *
      by_cases hx : x = k
      · have q : (x == k) = true := by simp [hx]
        have HD : Hid (decide (k ∈ U) = true) := by show _ = _; rw [← hx]; simp; exact HME.out
        clear hx
        go_wp2_with fail
        go_ret
        exact ⟨congrArg (fun b => Ending.returned (Value.bool b)) HD.out.symm, kr⟩
      · have q : (x == k) = false := by simp [hx]
        go_wp2_with fail
        go_roundw
        case rel => exact ⟨i + 1, by go_num, by omega, by rw [HTK.out]; simp; exact ⟨HNO.out, fun e => hx e.symm⟩, kr⟩
        case measure => simp [intOf]; omega
    · have j1 : decide ((i : Int) < (N : Int)) = false := decide_eq_false (by omega)
      have j2 : decide (i < N) = false := decide_eq_false hlt
      have HD : Hid (decide (k ∈ U) = false) := by
        show _ = _
        have h := HNO.out
        rw [List.take_of_length_le (by rw [HN.out]; omega)] at h
        simpa using h
      go_wp2_with fail
      go_ret
      exact ⟨congrArg (fun b => Ending.returned (Value.bool b)) HD.out.symm, kr⟩
theorem run_store_sl64 {W : World} {b off : Nat} (h : (W.cell? ⟨b, off, none⟩).isSome = true) (hz : W.frozen? ⟨b, off, none⟩ = false) (sa : Option Addr) (sn sc : Nat) : (storeVar 25 ⟨b, off, none⟩ (.slice sa sn sc)).run Try.prog W = .ok () (W.setCell ⟨b, off, none⟩ (.slice sa sn sc)) := by
  obtain ⟨u, hu⟩ := Option.isSome_iff_exists.1 h
  go_simp
theorem wpList_store_s64 {w : World} {ops : Array Oper} {rest : List Oper} {o : Oper} {a : Act} {Q : Exit → Act → World → Prop} (hgd : o.guard = none) (hd : o.dst = none) (x y : Operand) (ho : o.op = .store 25 x y) (b : Nat) (hx : a.eval x = .pointer (some ⟨b, 0, none⟩)) (sa : Option Addr) (sn sc : Nat) (hy : a.eval y = .slice sa sn sc)
    {v : Value} (hB : CL w b [v]) (h : ∀ w1, CL w1 b [.slice sa sn sc] → Keeps (fun k => k = b) w w1 → w1.heap.size = w.heap.size → wpList Try.prog ops Q rest a w1) : wpList Try.prog ops Q (o :: rest) a w :=
  wpList_plain hgd fun _ hK => by
    unfold Oper.wp execOp
    simp only [ho, hx, hy, Instr.storeAt, Instr.sureAddr, Sem.run_bind, Sem.run_pure, Result.andThen_ok, run_store_sl64 (by rw [hB.c 0 _ rfl]; rfl) (hB.z 0 (by show 0 < 1; decide)) sa sn sc]
    refine hK _ _ ?_
    rw [hd]
    exact (h _ (hB.set (o := 0) (by show 0 < 1; decide) _) ((Keeps.refl (fun k => k = b) w).setCell (p := ⟨b, 0, none⟩) (fun _ => rfl) _) (by simp))
set_option maxHeartbeats 1000000 in
set_option maxRecDepth 100000 in
theorem udrop_any {base : Nat} {w : World} {sb : Nat} {U : List Int} {v : Value} (h : SU base w sb U v) (hn : U.length ≤ 1000000) (k : Int) : Calls Try.prog 14 #[.pointer (some ⟨sb, 0, none⟩), .int .i64 k] w fun e w' => e = .returned (.tuple #[]) ∧ (∃ v', SU base w' sb (woutL U k) v' ∧ ∀ g, v'.ownBlock = some g → w.heap.size ≤ g) ∧ Keeps (fun i => i = sb) w w' := by
  obtain ⟨ua, uc, rfl, hk⟩ := h.form
  have e0 := h.c.c 0 _ rfl
  have HSU : Hid (SU base w sb U (.slice ua U.length uc)) := h
  have HL : Hid (KL w ua U) := hk
  clear hk h
  generalize hN : U.length = N at *
  have HN : Hid (U.length = N) := hN
  clear hN
  go_enter Try.func14, Try.ntmps14
  go_wp2_with fail
  go_loopw [4, 5] (fun lv iv Wr => ∃ (i m : Nat), iv = .int .i64 (i : Int) ∧ i ≤ N ∧ m ≤ i ∧ Wr.ownsRow w.heap.size 2 1 lv m (kvs (woutL (U.take i) k)) ∧ m = (woutL (U.take i) k).length ∧ Keeps (fun _ => False) w Wr) (fun _ iv _ => N - (intOf iv).toNat)
  case atStart => exact ⟨0, 0, rfl, Nat.zero_le _, Nat.le_refl _, World.ownsRow_nil _ _ _ _, rfl, Keeps.refl _ _⟩
  case round =>
    obtain ⟨i, m, rfl, hi, hmi, hO, hm, kr⟩ := hrel
    obtain ⟨al, cl, rfl, -⟩ := own_slice hO
    have e1 := kr.cell e0 (fun e => e)
    have hz := kr.size
    by_cases hlt : i < N
    · have j1 : decide ((i : Int) < (N : Int)) = true := decide_eq_true (by omega)
      have j2 : decide (i < N) = true := decide_eq_true hlt
      have j3 : (i : Int) < (N : Int) := by omega
      have j4 : (0 : Int) ≤ (i : Int) := by omega
      have hwi : IntKind.i64.wrap ((i : Int) + 1) = (i : Int) + 1 := by rw [IntKind.wrap_i64]; omega
      have hiS : i < U.length := by rw [HN.out]; exact hlt
      obtain ⟨b, off, rfl, hc⟩ := HL.out i hiS
      have c0 := kr.cell hc (fun e => e)
      have HTK : Hid (U.take (i + 1) = U.take i ++ [U.getD i 0]) := take_next hiS
      clear hc hiS
      generalize U.getD i 0 = x at *
      by_cases hx : x = k
      · have q : (x != k) = false := by simp [hx]
        have q' : (x == k) = true := by simp [hx]
        have e2 : woutL (U.take (i + 1)) k = woutL (U.take i) k := by
          rw [HTK.out]
          unfold woutL
          rw [List.filter_append, List.filter_cons_of_neg (by simp [hx])]
          simp
        have HR : Hid (wr.ownsRow w.heap.size 2 1 (.slice al m cl) m (kvs (woutL (U.take (i + 1)) k)) ∧ m = (woutL (U.take (i + 1)) k).length) := by rw [e2]; exact ⟨hO, hm⟩
        clear hx hO hm e2
        go_wp2_with fail
        go_roundw
        case rel => exact ⟨i + 1, m, by go_num, by omega, by omega, HR.out.1, HR.out.2, kr⟩
        case measure => simp [intOf]; omega
      · have q : (x != k) = true := by simp [hx]
        have q' : (x == k) = false := by simp [hx]
        have e2 : woutL (U.take (i + 1)) k = woutL (U.take i) k ++ [x] := by
          rw [HTK.out]
          unfold woutL
          rw [List.filter_append, List.filter_cons_of_pos (by simp [hx])]
          simp
        obtain ⟨a2, c2, W2, hr2, hO2, k2⟩ := append_k hO hz (by omega) x
        have HR : Hid (W2.ownsRow w.heap.size 2 1 (.slice a2 (m + 1) c2) (m + 1) (kvs (woutL (U.take (i + 1)) k)) ∧ m + 1 = (woutL (U.take (i + 1)) k).length) := by rw [e2, List.length_append, ← hm]; exact ⟨hO2, rfl⟩
        have K2 : Keeps (fun _ => False) w W2 := kr.trans' k2 (fun _ _ e => e) (fun j hj e => by have e : w.heap.size ≤ j := e; omega)
        clear hx hO hm e2 hO2 k2 hz
        go_wp2_with (at_builtin; refine wpList_append_tL rfl _ _ _ rfl _ _ _ W2 rfl rfl hr2 ?_; clear hr2)
        go_roundw
        case rel => exact ⟨i + 1, m + 1, by go_num, by omega, by omega, HR.out.1, HR.out.2, K2⟩
        case measure => simp [intOf]; omega
    · have j1 : decide ((i : Int) < (N : Int)) = false := decide_eq_false (by omega)
      have j2 : decide (i < N) = false := decide_eq_false hlt
      have HR : Hid (wr.ownsRow w.heap.size 2 1 (.slice al m cl) (woutL U k).length (kvs (woutL U k)) ∧ m = (woutL U k).length) := by
        have e : U.take i = U := List.take_of_length_le (by rw [HN.out]; omega)
        rw [e] at hO hm
        rw [← hm]
        exact ⟨hO, rfl⟩
      have hC := HSU.out.c.keep (by show 0 < 1; decide) kr (fun e => e)
      clear hO hm
      go_wp2_with (refine wpList_store_s64 rfl rfl _ _ rfl sb rfl al m cl rfl hC ?_; intro w8 hC8 k8 z8)
      go_end0
      refine ⟨rfl, ⟨.slice al m cl, ⟨hC8, k8.owns (owns_low HR.out.1 HSU.out.bs) (fun j e1 e2 => by
        have := owns_baseT HR.out.1 j e1
        have e2 : j = sb := e2
        have := HSU.out.lt
        have := HSU.out.bs
        omega), HSU.out.lt, ?_⟩, fun g e => owns_baseT HR.out.1 g e⟩, ?_⟩
      · have := HSU.out.bs
        omega
      · exact kr.trans' k8 (fun _ _ e => e.elim) (fun _ _ e => e)
end Go.Proofs.Ytgcfckbmmdajhaa
