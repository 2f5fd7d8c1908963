import Derived.Test.YtfbbllokpikbiabCyB
import Derived.Laws.CopyOwn
import Derived.Lib.Mul64
namespace Go.Proofs.Ytfbbllokpikbiab
open Go.RowKit

theorem and_mask (y : Nat) (hy : y ≤ 4096) : bits .and .u64 (y : Int) 4294967295 = (y : Int) := by
  show IntKind.u64.wrap ((BitVec.ofInt 64 (y : Int) &&& BitVec.ofInt 64 4294967295).toNat : Int) = _
  rw [BitVec.toNat_and, BitVec.toNat_ofInt, BitVec.toNat_ofInt]
  have e1 : ((y : Int) % ((2 ^ 64 : Nat) : Int)).toNat = y := by omega
  have e2 : ((4294967295 : Int) % ((2 ^ 64 : Nat) : Int)).toNat = 2 ^ 32 - 1 := by decide
  rw [e1, e2, Nat.and_two_pow_sub_one_eq_mod, Nat.mod_eq_of_lt (by omega)]
  unfold IntKind.wrap
  simp [IntKind.signed, IntKind.bits]
  omega
theorem wrap_u64 (y : Nat) (hy : y ≤ 4096) : IntKind.u64.wrap (y : Int) = (y : Int) := by
  unfold IntKind.wrap
  simp [IntKind.signed, IntKind.bits]
  omega

set_option maxHeartbeats 1600000 in
set_option maxRecDepth 1000000 in
theorem mul64_one (w : World) (y : Nat) (hy : y ≤ 4096) : Calls Try.prog 74 #[.int .u64 1, .int .u64 (y : Int)] w fun e w' => e = .returned (.tuple #[.int .u64 0, .int .u64 (y : Int)]) ∧ w' = w := by
  have h1 := and_mask 1 (by omega)
  have h0 := and_mask 0 (by omega)
  simp only [Int.cast_ofNat_Int] at h0 h1
  have h2 := and_mask y hy
  have h3 : (y : Int) / 4294967296 = 0 := by omega
  have h4 := wrap_u64 y hy
  go_enter Try.func74, Try.ntmps74
  go_wp2
  refine bodyPost_ret (v := .tuple #[.int .u64 0, .int .u64 (y : Int)]) (by simp [results, Try.f74, go_sem]) rfl ?_
  exact ⟨rfl, rfl⟩
set_option maxHeartbeats 1600000 in
set_option maxRecDepth 1000000 in
theorem mul_one (w : World) (y : Nat) (hy : y ≤ 4096) : Calls Try.prog 50 #[.int .u64 1, .int .u64 (y : Int)] w fun e w' => e = .returned (.tuple #[.int .u64 0, .int .u64 (y : Int)]) ∧ w' = w := by
  have hm := fun w => mul64_one w y hy
  go_enter Try.func50, Try.ntmps50
  go_wp2_with ((go_at_call 74; refine (hm _).mono ?_; rintro e w ⟨rfl, rfl⟩))
  refine bodyPost_ret (v := .tuple #[.int .u64 0, .int .u64 (y : Int)]) (by simp [results, Try.f50, go_sem]) rfl ?_
  exact ⟨rfl, rfl⟩

theorem intInfo0 : (Try.prog.info? 3).map (fun i => (i.zero, i.size, i.bytes)) = some (some (.int .i64 0), 1, 8) := by kernel_rfl
theorem underInts : Try.prog.underlying 23 = some (.slice 3) := by kernel_rfl
theorem sizeInt : (Try.prog.info? 3).map (·.size) = some 1 := by kernel_rfl
/-- A row whose first n cells are v. -/
def Fst (cur : List Value) (n : Nat) (v : Value) : Prop := ∀ j, j < n → cur[j]? = some v
theorem Fst.splice {cur : List Value} {n k : Nat} {v : Value} (h : Fst cur n v) (hk : n + k ≤ cur.length) : Fst (splice cur n (List.replicate k v)) (n + k) v := by
  intro j hj
  unfold Go.splice
  by_cases hj1 : j < n
  · rw [List.getElem?_append_left (by simp; omega), List.getElem?_take_of_lt hj1]
    exact h j hj1
  · rw [List.getElem?_append_right (by simp; omega), List.getElem?_append_left (by simp; omega)]
    rw [List.getElem?_replicate]
    simp
    omega
theorem Fst.full {cur : List Value} {n : Nat} {v : Value} (h : Fst cur n v) (hl : cur.length = n) : cur = List.replicate n v := by
  apply List.ext_getElem?
  intro i
  by_cases hi : i < n
  · rw [h i hi, List.getElem?_replicate]; simp [hi]
  · rw [List.getElem?_eq_none (by omega), List.getElem?_replicate]; simp [hi]
/-- Repeat's row under way. -/
def RP (w0 W : World) (c : Nat) (v : Value) (n : Nat) : Prop := ∃ cur : List Value, W.heap[w0.heap.size]? = some (.cells cur.toArray 3 (0, 0)) ∧ cur.length = c ∧ Fst cur n v ∧ Below w0.heap.size w0 W

theorem copy_run {w0 W : World} {c n k : Nat} {v : Value} (hv : v.oneCell' = true) (h : RP w0 W c v n) (dLen dCap : Nat) (a : Addr) (sLen sCap : Nat) (hk : k = min sLen dLen) (hsrc : ∀ j, j < k → W.cell? (a.add j) = some v) (hfit : n + k ≤ c) :
    ∃ W', (Builtin.copy_ #[23, 23] 3 #[.slice (some ⟨w0.heap.size, n, none⟩) dLen dCap, .slice (some a) sLen sCap]).run Try.prog W = .ok (.int .i64 (k : Int)) W' ∧ RP w0 W' c v (n + k) := by
  obtain ⟨cur, hg, hl, hF, hB⟩ := h
  have := run_copy_row (P := Try.prog) W 23 23 3 3 w0.heap.size n dLen dCap a sLen sCap cur.toArray 3 (List.replicate k v) underInts sizeInt hg (by rw [List.length_replicate]; exact hk) (fun j u e => by
    rw [List.getElem?_replicate] at e
    split at e
    · rename_i hj; cases e; exact hsrc j hj
    · cases e) (by simp; omega) (fun u hu => by rw [List.eq_of_mem_replicate hu]; exact hv)
  refine ⟨_, this.trans (by rw [List.length_replicate]; rfl), _, setRow_heap W _ _ _ _ _ hg, ?_, ?_, below_setRow hB (Nat.le_refl _) _⟩
  · simp; omega
  · have := hF.splice (k := k) (by omega)
    simpa [splice] using this

set_option maxHeartbeats 1600000 in
set_option maxRecDepth 1000000 in
theorem repeat_any {w : World} {b : Nat} (cap : Nat) (t : Int) (c : Nat) (h1 : 1 ≤ c) (h2 : c ≤ 4096) (h : w.cell? ⟨b, 0, none⟩ = some (.int .i64 t)) :
    Calls Try.prog 39 #[.slice (some ⟨b, 0, none⟩) 1 cap, .int .i64 (c : Int)] w fun e w' => e = .returned (.slice (some ⟨w.heap.size, 0, none⟩) c c) ∧ w'.heap[w.heap.size]? = some (.cells (List.replicate c (.int .i64 t)).toArray 3 (0, 0)) ∧ Keeps (fun _ => False) w w' := by
  have hm := fun w => mul_one w c h2
  obtain ⟨i0, hi0, hz0, hz1, hz2⟩ := info_parts intInfo0
  have h3 : ¬ (c : Int) < 0 := by omega
  have h4 : (0 : Int) ≤ (c : Int) := by omega
  have h5 : decide ((9223372036854775807 : Int) < (c : Int)) = false := by simp; omega
  obtain ⟨Z, hZl, hmk⟩ : ∃ Z : List Value, Z.length = c ∧ ∀ W : World, (Instr.makeSlice 23 (.int .i64 (c : Int)) (.int .i64 (c : Int))).run Try.prog W = .ok (.slice (some ⟨W.heap.size, 0, none⟩) c c) (W.alloc (.cells Z.toArray 3)) := by
    refine ⟨(madeCells #[.int .i64 0] (c * 1)).toList, by simp [size_madeCells], fun W => ?_⟩
    have := run_make (P := Try.prog) W 23 3 i0 _ underInts hi0 hz0 .i64 .i64 c c (by omega) (by omega) (by rw [hz2]; omega) (by omega)
    rw [hz1] at this
    simpa [Value.cells] using this
  have b0 : Below w.heap.size w (w.alloc (.cells Z.toArray 3)) := (Below.refl _ w).alloc (Nat.le_refl _) _
  have c0 : (w.alloc (.cells Z.toArray 3)).cell? ⟨b, 0, none⟩ = some (.int .i64 t) := ((Keeps.refl (fun _ => False) w).alloc _).cell h (fun e => e)
  obtain ⟨w1, hr1, P1⟩ := copy_run (w0 := w) (c := c) (n := 0) (k := 1) (v := .int .i64 t) rfl ⟨Z, heap_alloc_new w _, hZl, fun j hj => by omega, b0⟩ c c ⟨b, 0, none⟩ 1 cap (by omega) (fun j hj => by cases j with | zero => exact c0 | succ j => omega) (by omega)
  obtain ⟨g, hgs⟩ : ∃ g, Hid (g = w.heap.size) := ⟨_, rfl⟩
  have hmk' := hmk w
  rw [← hgs.out] at hmk' hr1 ⊢
  clear hZl h b0 c0 hmk hz0 hz1 hz2 hi0
  go_enter Try.func39, Try.ntmps39
  go_wp2_with ((go_at_call 50; refine (hm _).mono ?_; rintro e w ⟨rfl, rfl⟩))
  go_loopw [8] (fun i W => ∃ n : Nat, 1 ≤ n ∧ n ≤ c ∧ i = .int .i64 (n : Int) ∧ RP w W c (.int .i64 t) n) (fun i _ => c - (intOf i).toNat)
  case atStart => exact ⟨1, by omega, by omega, rfl, P1⟩
  case round =>
    obtain ⟨n, hn1, hn2, rfl, hP⟩ := hrel
    by_cases hlt : n < c
    · have hltI : (n : Int) < (c : Int) := by omega
      have hn0 : (0 : Int) ≤ (n : Int) := by omega
      have hnc : (n : Int) ≤ (c : Int) := by omega
      obtain ⟨k, hk⟩ : ∃ k, Hid (k = min n (c - n)) := ⟨_, rfl⟩
      have hkb := hk.out
      have hk1 : 1 ≤ k := by omega
      have hk2 : n + k ≤ c := by omega
      clear hkb
      have hPd : RP w wr.drew c (.int .i64 t) n := by
        obtain ⟨cur, hg, hl, hF, hB⟩ := hP
        exact ⟨cur, hg, hl, hF, hB.os, hB.tape, hB.output, hB.size, hB.block⟩
      obtain ⟨w2, hr2, P2⟩ := copy_run (k := k) rfl hPd (c - n) (c - n) ⟨w.heap.size, 0, none⟩ n c hk.out (fun j hj => by
        obtain ⟨cur, hg, hl, hF, hB⟩ := hPd
        have hj2 : j < n := by have := hk.out; omega
        have e := hF j hj2
        rw [add_atT, Nat.zero_add]
        show World.cell? wr.drew ⟨w.heap.size, j, none⟩ = _
        unfold World.cell?
        simp [hg, e]) hk2
      rw [← hgs.out] at hr2
      have HP2 := (show Hid _ from P2)
      clear hPd hP P2
      go_wp2
      go_region
      go_wp2
      go_roundw
      case rel => exact ⟨n + k, by omega, by omega, by go_num, HP2.out⟩
      case measure => simp [intOf]; omega
    · obtain rfl : n = c := by omega
      have hltI : ¬ (n : Int) < (n : Int) := by omega
      obtain ⟨cur, hg, hl, hF, hB⟩ := hP
      have ec := hF.full hl
      go_wp2
      go_ret
      subst ec
      exact ⟨rfl, by rw [hgs.out]; exact hg, hB.os, hB.tape, hB.output, hB.size, fun k hk _ => hB.block k hk⟩
end Go.Proofs.Ytfbbllokpikbiab
