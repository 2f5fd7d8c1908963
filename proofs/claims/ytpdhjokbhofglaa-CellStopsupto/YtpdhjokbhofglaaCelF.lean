import Derived.Test.YtpdhjokbhofglaaCelN
namespace Go.Proofs.Ytpdhjokbhofglaa
open Go.RowKit

/-- A number modulo 4. -/
def pl (p : Int) : Nat := (BitVec.ofInt 64 p &&& BitVec.ofInt 64 3).toNat
theorem pl_lt (p : Int) : pl p < 4 := by
  unfold pl
  rw [BitVec.toNat_and]
  have : (BitVec.ofInt 64 3).toNat = 3 := by decide
  rw [this]
  exact Nat.lt_succ_of_le Nat.and_le_right
theorem and3 (p : Int) : bits .and .i64 p 3 = (pl p : Int) := by
  show IntKind.i64.wrap ((pl p : Nat) : Int) = (pl p : Int)
  have := pl_lt p
  rw [IntKind.wrap_i64]; omega

/-- The memory that the laws begin with. -/
def fr (i : Nat) : Mm := { Mm.new with cells := (List.range i).map fun (j : Nat) => ((10 + j : Int), (10 + j : Int)) }
theorem fr_succ (i : Nat) : (fr i).make (10 + (i : Int)) = fr (i + 1) := by simp [fr, Mm.make, List.range_succ]
theorem fr_len (i : Nat) : (fr i).cells.length = i := by simp [fr]
theorem fr_ca {i : Nat} : (ca (fr (i + 1)).cells i).2 = 10 + (i : Int) := by simp [fr, ca, List.getD_eq_getElem?_getD]

set_option maxHeartbeats 3200000 in
set_option maxRecDepth 1000000 in
theorem fresh_any (w : World) : Calls Try.prog 4 #[] w fun e w' => e = .returned (.pointer (some ⟨w.heap.size, 0, none⟩)) ∧ MN w w' w.heap.size (fr 3) := by
  have hp := peq w.heap.size
  go_enter Try.func4, Try.ntmps4
  go_wp2_with fail
  refine (new_any w).mono ?_
  rintro e w1 ⟨rfl, m1, k1⟩
  have M1 := MN.made (Keeps.refl _ w) m1 k1
  clear m1 k1
  go_wp2_with fail
  go_loopw [2] (fun iv wr => ∃ i : Nat, i ≤ 3 ∧ iv = .int .i64 i ∧ MN w wr w.heap.size (fr i)) (fun iv _ => 3 - (intOf iv).toNat)
  case atStart => exact ⟨0, by omega, rfl, M1⟩
  case round =>
    obtain ⟨i, hi, rfl, M⟩ := hrel
    by_cases hlt : i < 3
    · have hiI : (i : Int) < 3 := by omega
      have A := nmake M (10 + (i : Int)) (by rw [fr_len]; omega)
      rw [fr_succ, fr_len] at A
      go_wp2_with fail
      refine A.mono ?_
      clear A
      rintro e w2 ⟨rfl, M2⟩
      have P := npeek M2 (c := i) (by rw [fr_len]; omega)
      rw [fr_ca] at P
      go_wp2_with fail
      refine P.mono ?_
      clear P
      rintro e w2 ⟨rfl, rfl⟩
      go_wp2_with (go_at_call 5; refine (num_any _ _).mono ?_; rintro e w2 ⟨rfl, rfl⟩)
      go_roundw
      case rel => exact ⟨i + 1, by omega, by go_num, M2⟩
      case measure => simp [intOf]; omega
    · have hiI : ¬ (i : Int) < 3 := by omega
      have e : i = 3 := by omega
      subst e
      go_wp2_with fail
      go_ret
      exact ⟨rfl, M⟩

/-- A memory apart from the blocks of R; all its blocks are new since w0. -/
def MP (w0 : World) (R : Nat → Prop) (w : World) (mb : Nat) (s : Mm) : Prop :=
  ∃ F, MI w mb s F ∧ (∀ k ∈ F, w0.heap.size ≤ k ∧ ¬ R k) ∧ Keeps (fun _ => False) w0 w ∧ (∀ k, R k → k < w.heap.size)
/-- What a call on such a memory leaves. -/
def KP (w0 : World) (R : Nat → Prop) (w w' : World) : Prop := Keeps (fun k => w0.heap.size ≤ k ∧ ¬ R k) w w'

section
variable {w0 w w' : World} {R R' : Nat → Prop} {mb : Nat} {s : Mm}
theorem MP.ofMN (h : MN w0 w mb s) : MP w0 (fun _ => False) w mb s := by
  obtain ⟨F, h, hF, k⟩ := h
  exact ⟨F, h, fun i hi => ⟨hF i hi, fun e => e⟩, k, fun _ e => e.elim⟩
theorem MP.keeps (h : MP w0 R w mb s) : Keeps (fun _ => False) w0 w := by obtain ⟨F, _, _, k, _⟩ := h; exact k
theorem MP.lt (h : MP w0 R w mb s) {k : Nat} (hk : R k) : k < w.heap.size := by obtain ⟨F, _, _, _, h⟩ := h; exact h k hk
theorem MP.ltm (h : MP w0 R w mb s) : mb < w.heap.size := by obtain ⟨F, h, _⟩ := h; exact h.lt _ h.mem
theorem MP.notR (h : MP w0 R w mb s) : ¬ R mb := by obtain ⟨F, h, hF, _⟩ := h; exact (hF _ h.mem).2
/-- The own blocks are written, new ones are laid. -/
theorem MP.own (h : MP w0 R w mb s) (k : Keeps (fun k => w0.heap.size ≤ k ∧ R k) w w') (hR : ∀ k, R' k → (R k ∨ w.heap.size ≤ k) ∧ k < w'.heap.size) : MP w0 R' w' mb s := by
  obtain ⟨F, h, hF, hk, hl⟩ := h
  exact ⟨F, h.keep k (fun i hi e => (hF i hi).2 e.2), fun i hi => ⟨(hF i hi).1, fun e => ((hR i e).1).elim (hF i hi).2 (fun e' => by have := h.lt i hi; omega)⟩, hk.trans' k (fun _ _ e => e) (fun i hi e => by omega), fun i hi => (hR i hi).2⟩
theorem MP.new (h : MP w0 R w mb s) (k : Keeps (fun _ => False) w w') : MP w0 R w' mb s :=
  h.own (k.mono (fun _ _ e => e.elim)) (fun _ hi => ⟨.inl hi, Nat.lt_of_lt_of_le (h.lt hi) k.size⟩)
theorem MP.next {s' : Mm} {F F' : List Nat} (hl : MI w mb s F) (hF : ∀ k ∈ F, w0.heap.size ≤ k ∧ ¬ R k) (hk : Keeps (fun _ => False) w0 w) (hR : ∀ k, R k → k < w.heap.size) (h : MI w' mb s' F') (l : Left w w' F F') : MP w0 R w' mb s' ∧ KP w0 R w w' :=
  have _ := hl
  ⟨⟨F', h, fun i hi => (l.old i hi).elim (hF i) (fun e => ⟨Nat.le_trans hk.size e, fun e' => by have := hR i e'; omega⟩), hk.trans' l.keeps (fun _ _ e => e) (fun i hi e => by have := hF i e; omega), fun i hi => Nat.lt_of_lt_of_le (hR i hi) l.keeps.size⟩, l.keeps.mono (fun i _ e => hF i e)⟩
theorem KP.cell (h : KP w0 R w w') {p : Addr} {v : Value} (hc : w.cell? p = some v) (hp : R p.block) : w'.cell? p = some v := Keeps.cell h hc (fun e => e.2 hp)
theorem KP.frozen (h : KP w0 R w w') {p : Addr} (hl : p.block < w.heap.size) (hp : R p.block) : w'.frozen? p = w.frozen? p := Keeps.frozen h hl (fun e => e.2 hp)
theorem KP.new (k : Keeps (fun _ => False) w w') : KP w0 R w w' := Keeps.mono k (fun _ _ e => e.elim)
theorem KP.trans {w'' : World} (h : KP w0 R w w') (k : KP w0 R w' w'') : KP w0 R w w'' := Keeps.trans h k

theorem pbegin (h : MP w0 R w mb s) (st th : Int) (hm : s.may st th = true) :
    Calls Try.prog 6 #[.pointer (some ⟨mb, 0, none⟩), .int .i64 st, .int .i64 th] w fun e w' => e = .returned (.int .i64 0) ∧ MP w0 R w' mb (s.begin st th) ∧ KP w0 R w w' := by
  obtain ⟨F, h, hF, hk, hR⟩ := h
  refine (begin_ok h st th hm).mono ?_
  rintro e w' ⟨rfl, h', l⟩
  exact ⟨rfl, MP.next h hF hk hR h' l⟩
theorem padd (h : MP w0 R w mb s) {c : Nat} (hc : c < s.cells.length) (hfr : s.free = true) (hlog : (s.log.length + 1) * 56 ≤ 140737488355328) (u : Int) :
    Calls Try.prog 10 #[.pointer (some ⟨mb, 0, none⟩), .int .i64 (c : Int), .int .i64 u] w fun e w' =>
      e = .returned (.tuple #[.int .i64 (ca s.cells c).2, .int .i64 0]) ∧ MP w0 R w' mb (s.take 3 c (wrap64 ((ca s.cells c).2 + u)) true) ∧ KP w0 R w w' := by
  obtain ⟨F, h, hF, hk, hR⟩ := h
  refine (add_ok h hc hfr hlog u).mono ?_
  rintro e w' ⟨rfl, F', h', l⟩
  exact ⟨rfl, MP.next h hF hk hR h' l⟩
theorem pload (h : MP w0 R w mb s) {c : Nat} (hc : c < s.cells.length) (hfr : s.free = true) (hlog : (s.log.length + 1) * 56 ≤ 140737488355328) :
    Calls Try.prog 17 #[.pointer (some ⟨mb, 0, none⟩), .int .i64 (c : Int)] w fun e w' =>
      e = .returned (.tuple #[.int .i64 (ca s.cells c).2, .int .i64 0]) ∧ MP w0 R w' mb (s.take 1 c (ca s.cells c).2 true) ∧ KP w0 R w w' := by
  obtain ⟨F, h, hF, hk, hR⟩ := h
  refine (load_ok h hc hfr hlog).mono ?_
  rintro e w' ⟨rfl, F', h', l⟩
  exact ⟨rfl, MP.next h hF hk hR h' l⟩
theorem pswap (h : MP w0 R w mb s) {c : Nat} (hc : c < s.cells.length) (hfr : s.free = true) (hlog : (s.log.length + 1) * 56 ≤ 140737488355328) (old next : Int) :
    Calls Try.prog 15 #[.pointer (some ⟨mb, 0, none⟩), .int .i64 (c : Int), .int .i64 old, .int .i64 next] w fun e w' =>
      e = .returned (.tuple #[.bool (decide ((ca s.cells c).2 = old)), .int .i64 0]) ∧ MP w0 R w' mb (s.take 2 c (if (ca s.cells c).2 = old then next else (ca s.cells c).2) (decide ((ca s.cells c).2 = old))) ∧ KP w0 R w w' := by
  obtain ⟨F, h, hF, hk, hR⟩ := h
  refine (swap_ok h hc hfr hlog old next).mono ?_
  rintro e w' ⟨rfl, F', h', l⟩
  exact ⟨rfl, MP.next h hF hk hR h' l⟩
theorem ppeek (h : MP w0 R w mb s) {c : Nat} (hc : c < s.cells.length) :
    Calls Try.prog 13 #[.pointer (some ⟨mb, 0, none⟩), .int .i64 (c : Int)] w fun e w' => e = .returned (.tuple #[.int .i64 (ca s.cells c).2, .int .i64 0]) ∧ w' = w := by
  obtain ⟨F, h, _⟩ := h
  exact peek_any h hc
end
end Go.Proofs.Ytpdhjokbhofglaa
