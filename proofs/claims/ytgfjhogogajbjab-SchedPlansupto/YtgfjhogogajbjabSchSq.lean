import Derived.Test.YtgfjhogogajbjabSchIt
namespace Go.Proofs.Ytgfjhogogajbjab
open Go.RowKit Go.Shelf
attribute [local go_sem] Oper.semAt_some

/-- The first k of N. -/
def idx (N k : Nat) : List (Fin N) := (List.finRange N).take k
theorem idx_zero (N : Nat) : idx N 0 = [] := rfl
theorem idx_length {N k : Nat} (h : k ≤ N) : (idx N k).length = k := by simp [idx, Nat.min_eq_left h]
theorem idx_succ {N k : Nat} (h : k < N) : idx N (k + 1) = idx N k ++ [⟨k, h⟩] := by
  unfold idx
  rw [List.take_add_one]
  simp [h]
/-- One more of them. -/
theorem idx_snoc {N : Nat} {pre : List (Fin N)} {x : Fin N} (h : pre ++ [x] = idx N (pre.length + 1)) (hl : pre.length < N) : pre = idx N pre.length ∧ (x : Nat) = pre.length := by
  rw [idx_succ hl] at h
  obtain ⟨h1, h2⟩ := List.append_inj' h rfl
  simp only [List.cons.injEq, and_true] at h2
  exact ⟨h1, by rw [h2]⟩

/-- Stretches' value: its two boxes and its copy. -/
structure SQ (w0 w : World) (B1 B2 nt : Nat) (a : Option Addr) (m cap : Nat) (z : Nat → Int) : Prop where
  c1 : w.cell? ⟨B1, 0, none⟩ = some (.slice a m cap)
  c2 : w.cell? ⟨B2, 0, none⟩ = some (.int .i64 (nt : Int))
  nl : NL w a m z
  n1 : w0.heap.size ≤ B1
  n2 : w0.heap.size ≤ B2
  na : ∀ g o, a = some ⟨g, o, none⟩ → w0.heap.size ≤ g
  la : ∀ g o, a = some ⟨g, o, none⟩ → g < w.heap.size
  keeps : Keeps (fun _ => False) w0 w

set_option maxHeartbeats 1600000 in
set_option maxRecDepth 1000000 in
theorem stretches_any {w : World} {a : Option Addr} {m cap nt : Nat} {z : Nat → Int} (h : NL w a m z) (hn : 1 ≤ nt ∧ nt ≤ 6) (hm : m ≤ 4096) :
    Calls Try.prog 22 #[.int .i64 (nt : Int), .slice a m cap] w fun e w' => ∃ B1 B2 a' cap', e = .returned (.func (.func 34) #[] #[.pointer (some ⟨B1, 0, none⟩), .pointer (some ⟨B2, 0, none⟩)]) ∧ SQ w w' B1 B2 nt a' m cap' z := by
  have hmf : ∀ (fn : Fn) (first cap : Array Value) (w : World), (Instr.makeFunc fn first cap).run Try.prog w = .ok (.func fn first cap) w := fun _ _ _ _ => rfl
  have hz : rfz (nt : Int) m = 0 := by unfold rfz; rw [if_neg (by omega), if_neg (by omega)]
  have hf := fun (w : World) => refuse_any w (nt : Int) a m cap
  rw [hz] at hf
  have K0 : ∀ o, Keeps (fun _ => False) w (w.alloc o) := fun o => (Keeps.refl _ w).alloc o
  have hc := fun o => clone_any (cap := cap) (h.new (K0 o)) hm
  clear h hz
  go_enter Try.func22, Try.ntmps22
  go_wp2_with (first | (go_at_call 21; refine (hf _).mono ?_; rintro e w' ⟨rfl, rfl⟩) | (go_at_call 33; refine (hc _).mono ?_; rintro e w1 ⟨v, rfl, ho, k1⟩; obtain ⟨a', cap', rfl, hnl, hb⟩ := owns_nl ho))
  go_ret
  have z1 : w.heap.size + 1 ≤ w1.heap.size := by simpa using k1.size
  have kA : Keeps (fun _ => False) w1 (w1.alloc (.cells #[.slice a' m cap'] 22)) := (Keeps.refl _ w1).alloc _
  refine ⟨_, _, a', cap', rfl, by simp, kA.cell (k1.cell (by simp) (fun e => e)) (fun e => e), hnl.new kA, by omega, Nat.le_refl _, fun g o e => ?_, fun g o e => Nat.lt_of_lt_of_le (owns_lt' ho g (hb g o e).2.2) kA.size, ((K0 _).trans k1).trans kA⟩
  have := (hb g o e).1
  simp at this
  omega

set_option maxHeartbeats 1600000 in
set_option maxRecDepth 1000000 in
theorem stretches_no (w : World) (n : Int) (a : Option Addr) (m cap : Nat) (hz : rfz n m ≠ 0) :
    Calls Try.prog 22 #[.int .i64 n, .slice a m cap] w fun e w' => e = .returned (.func (.func 32) #[] #[]) ∧ Keeps (fun _ => False) w w' := by
  have hf := fun (w : World) => refuse_any w n a m cap
  have hzb : (rfz n m != 0) = true := by simpa using hz
  generalize rfz n m = r at *
  clear hz
  go_enter Try.func22, Try.ntmps22
  go_wp2_with ((go_at_call 21; refine (hf _).mono ?_; rintro e w' ⟨rfl, rfl⟩))
  go_ret
  exact ⟨rfl, (Keeps.refl _ w).alloc _⟩

theorem SQ.lt {w0 w : World} {B1 B2 nt : Nat} {a : Option Addr} {m cap : Nat} {z : Nat → Int} (h : SQ w0 w B1 B2 nt a m cap z) : B1 < w.heap.size ∧ B2 < w.heap.size :=
  ⟨World.block_lt_of_cell? _ _ h.c1, World.block_lt_of_cell? _ _ h.c2⟩

/-- Stretches' value gives the stretches, or a part of them, each with its place. -/
theorem cut_stops (n : Nat) (hn : 1 ≤ n) {w0 w : World} {B1 B2 nt : Nat} {a : Option Addr} {m cap : Nat} {z : Nat → Int} (h : SQ w0 w B1 B2 nt a m cap z) (hm : m ≤ 4096) {M : Nat} (hM : Many (nmf nt z) m M) (Kp : World → World → Prop) (hKp : ∀ W W', Kp W W' → Sv (Dz B1 B2 a) W W') :
    SeqStopsK Fence.wide n Try.prog 34 #[.pointer (some ⟨B1, 0, none⟩), .pointer (some ⟨B2, 0, none⟩)] (fun j : Fin M => encu (cut (nmf nt z) m j)) Kp (fun ys => ys = idx M M) (fun pre => ∃ k, 0 < k ∧ k ≤ M ∧ pre = idx M k) M w := fun l J Jx W hW hA _ hY h0 => by
  have kW : Keeps (fun k => w.heap.size ≤ k) w W := ⟨hW.os, hW.tape, hW.output, hW.size, fun k hk _ => hW.block k hk⟩
  have hnl : NL W a m z := by
    rcases h.nl with e | ⟨b, off, rfl, hb, hc⟩
    · exact .inl e
    · exact .inr ⟨b, off, rfl, Nat.lt_of_lt_of_le hb hW.size, fun i hi => (hW.cell (p := ⟨b, off + i, none⟩) hb).trans (hc i hi)⟩
  refine (cut1_k n hn l B1 B2 nt a m cap z hm M hM Kp hKp (fun k W => J (idx M k) W) (fun k W => Jx (idx M k) W) (fun k W hk hJ => ?_) W (fun k A B hJ hk => hA _ A B none hJ ⟨hk.os, hk.tape, hk.output, hk.size, fun i hi _ => hk.block i hi (fun e => e)⟩ (fun r e => by cases e)) ((hW.cell (p := ⟨B1, 0, none⟩) h.lt.1).trans h.c1) ((hW.cell (p := ⟨B2, 0, none⟩) h.lt.2).trans h.c2) hnl h0).mono ?_
  · have := hY (idx _ k) ⟨k, hk⟩ W hJ (by rw [idx_length (Nat.le_of_lt hk)]; exact hk)
    rw [← idx_succ hk] at this
    exact this
  · rintro e W' ⟨hv, h | ⟨k, h1, h2, h⟩⟩
    · exact ⟨hv, .inl ⟨_, rfl, h⟩⟩
    · exact ⟨hv, .inr ⟨_, ⟨k, h1, h2, rfl⟩, h⟩⟩

/-- What a round may write: the blocks of T, and what is new. -/
theorem keepsK_b {T : Nat → Prop} {w : World} (W : World) (l : Nat) (o o' : Obj) (hl : w.heap.size ≤ l) (_ : W.heap[l]? = some o) (_ : o.isCells = false) (_ : o.isWalk = false) : Keeps (fun k => T k ∨ w.heap.size ≤ k) W (W.putObj l o') :=
  (Keeps.refl _ W).grown (grownBy_putObj' W l o') (fun i _ e => by cases e; exact .inr hl)
theorem keepsK_t {S : Nat → Prop} {A B C : World} (h : Keeps S A B) (k : Keeps S B C) : Keeps S A C := h.trans k
theorem SQ.sv {w0 w : World} {B1 B2 nt : Nat} {a : Option Addr} {m cap : Nat} {z : Nat → Int} (h : SQ w0 w B1 B2 nt a m cap z) {T : Nat → Prop} (hT : ∀ k, T k → k < w0.heap.size) (W W' : World) (k : Keeps (fun k => T k ∨ w.heap.size ≤ k) W W') : Sv (Dz B1 B2 a) W W' := by
  refine ⟨k.size, fun i hi hl => k.block i hl (fun e => ?_)⟩
  have h1 := h.lt
  have h2 := h.n1
  have h3 := h.n2
  rcases hi with rfl | rfl | ⟨o, rfl⟩
  · rcases e with e | e
    · have := hT _ e; omega
    · omega
  · rcases e with e | e
    · have := hT _ e; omega
    · omega
  · have h4 := h.na i o rfl
    rcases e with e | e
    · have := hT _ e; omega
    · have := h.la i o rfl; omega
end Go.Proofs.Ytgfjhogogajbjab
