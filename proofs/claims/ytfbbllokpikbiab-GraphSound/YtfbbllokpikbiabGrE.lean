import Derived.Test.YtfbbllokpikbiabGrD
import Derived.Deep.OwnRows
namespace Go.Proofs.Ytfbbllokpikbiab
open Go.RowKit Go.Deep
attribute [local go_sem] Oper.semAt_some run_store_nf run_store_f
theorem bInfo : (Try.prog.info? 4).map (fun i => (i.zero, i.size, i.bytes)) = some (some (.bool false), 1, 1) := by kernel_rfl
/-- What reaches answers. -/
def RcP (g : List Eg) (u b : Nat) (w : World) (e : Ending) (w' : World) : Prop := ∃ x : Bool, e = .returned (.bool x) ∧ (x = true ↔ Rch g u b) ∧ Keeps (fun _ => False) w w'
theorem CL.more {w : World} {b : Nat} {v : Value} (h : CL w b [v]) (o : Obj) : CL (w.alloc o) b [v] := h.alloc (by show 0 < 1; decide) o
theorem CL.stays {w w' : World} {b : Nat} {v : Value} {S : Nat → Prop} (h : CL w b [v]) (k : Keeps S w w') (hS : ¬ S b) : CL w' b [v] := h.keep (by show 0 < 1; decide) k hS
set_option maxHeartbeats 600000 in
set_option maxRecDepth 100000 in
theorem reaches_any {w : World} {mb lo hi n from_ to_ : Nat} {g : List Eg} (hl : LR w lo hi mb g) (hb : Bln g n) (hn : n ≤ 4096) (hlen : g.length ≤ 4398046511104) (hf : from_ < n) : Calls Try.prog 24 #[.int .i64 (n : Int), .map (some mb), .int .i64 (from_ : Int), .int .i64 (to_ : Int)] w (RcP g from_ to_ w) := by
  have HFD := rw_all (bc := w.heap.size) (lo := lo) (hi := hi) (mb := mb) (to_ := to_) hb hn hlen n
  obtain ⟨W1, hW1⟩ : ∃ W1, W1 = (w.alloc (.cells #[.map (some mb)] 50)).alloc (.cells #[.int .i64 (to_ : Int)] 3) := ⟨_, rfl⟩
  have k1 : Keeps (fun _ => False) w W1 := by rw [hW1]; exact ((Keeps.refl _ w).alloc _).alloc _
  have z1 : W1.heap.size = w.heap.size + 2 := by rw [hW1]; simp
  have b0 : CL W1 w.heap.size [.map (some mb)] := by rw [hW1]; exact (CL.made w [.map (some mb)] 50).more _
  have b1 : CL W1 (w.heap.size + 1) [.int .i64 (to_ : Int)] := by
    rw [hW1]
    have h := CL.made (w.alloc (.cells #[.map (some mb)] 50)) [.int .i64 (to_ : Int)] 3
    simpa using h
  have HW1 : Hid (W1 = (w.alloc (.cells #[.map (some mb)] 50)).alloc (.cells #[.int .i64 (to_ : Int)] 3)) := hW1
  clear hW1
  obtain ⟨W2, hW2⟩ : ∃ W2, W2 = W1.alloc (.cells (madeCells #[.bool false] n) 4) := ⟨_, rfl⟩
  have hmk : (Instr.makeSlice 32 (.int .i64 (n : Int)) (.int .i64 (n : Int))).run Try.prog W1 = .ok (.slice (some ⟨w.heap.size + 2, 0, none⟩) n n) W2 := by
    rw [hW2, ← z1]
    exact run_make_row' (P := Try.prog) 32 4 (.bool false) 1 Try.underlying32 bInfo rfl .i64 .i64 n (by omega) (by omega) W1
  have k2 : Keeps (fun _ => False) W1 W2 := by rw [hW2]; exact (Keeps.refl _ W1).alloc _
  have f2 : FB W2 (w.heap.size + 2) n (mks (fun _ => false)) := by rw [hW2, ← z1]; exact FB.made W1 n (.bool false) 4
  have z2 : W2.heap.size = w.heap.size + 3 := by rw [hW2]; simp [z1]
  clear hW2
  obtain ⟨W3, hW3⟩ : ∃ W3, W3 = W2.alloc (.cells #[.slice (some ⟨w.heap.size + 2, 0, none⟩) n n] 32) := ⟨_, rfl⟩
  have k3 : Keeps (fun _ => False) W2 W3 := by rw [hW3]; exact (Keeps.refl _ W2).alloc _
  have b3 : CL W3 (w.heap.size + 3) [.slice (some ⟨w.heap.size + 2, 0, none⟩) n n] := by
    rw [hW3]
    have h := CL.made W2 [.slice (some ⟨w.heap.size + 2, 0, none⟩) n n] 32
    rw [z2] at h
    exact h
  have z3 : W3.heap.size = w.heap.size + 4 := by rw [hW3]; simp [z2]
  have HW3 : Hid (W3 = W2.alloc (.cells #[.slice (some ⟨w.heap.size + 2, 0, none⟩) n n] 32)) := hW3
  clear hW3
  obtain ⟨W4, hW4⟩ : ∃ W4, W4 = W3.alloc (.cells #[.nilFunc] 71) := ⟨_, rfl⟩
  have k4 : Keeps (fun _ => False) W3 W4 := by rw [hW4]; exact (Keeps.refl _ W3).alloc _
  have b4 : CL W4 (w.heap.size + 4) [.nilFunc] := by
    rw [hW4]
    have h := CL.made W3 [.nilFunc] 71
    rw [z3] at h
    exact h
  have HW4 : Hid (W4 = W3.alloc (.cells #[.nilFunc] 71)) := hW4
  clear hW4
  have n4 := b4.c 0 _ rfl
  have n4z := b4.z 0 (by show 0 < 1; decide)
  obtain ⟨W5, hW5⟩ : ∃ W5, W5 = W4.setCell ⟨w.heap.size + 4, 0, none⟩ (.func (.func 40) #[] #[.pointer (some ⟨w.heap.size, 0, none⟩), .pointer (some ⟨w.heap.size + 1, 0, none⟩), .pointer (some ⟨w.heap.size + 3, 0, none⟩), .pointer (some ⟨w.heap.size + 4, 0, none⟩)]) := ⟨_, rfl⟩
  have k5 : Keeps (fun i => i = w.heap.size + 4) W4 W5 := by rw [hW5]; exact (Keeps.refl (fun i => i = w.heap.size + 4) W4).setCell (p := ⟨w.heap.size + 4, 0, none⟩) (fun _ => rfl) _
  have b5 : CL W5 (w.heap.size + 4) [.func (.func 40) #[] #[.pointer (some ⟨w.heap.size, 0, none⟩), .pointer (some ⟨w.heap.size + 1, 0, none⟩), .pointer (some ⟨w.heap.size + 3, 0, none⟩), .pointer (some ⟨w.heap.size + 4, 0, none⟩)]] := by rw [hW5]; exact b4.set (o := 0) (by show 0 < 1; decide) _
  have HW5 : Hid (W5 = W4.setCell ⟨w.heap.size + 4, 0, none⟩ (.func (.func 40) #[] #[.pointer (some ⟨w.heap.size, 0, none⟩), .pointer (some ⟨w.heap.size + 1, 0, none⟩), .pointer (some ⟨w.heap.size + 3, 0, none⟩), .pointer (some ⟨w.heap.size + 4, 0, none⟩)])) := hW5
  clear hW5
  have e5 := b5.c 0 _ rfl
  have k14 : Keeps (fun _ => False) W1 W4 := (k2.trans k3).trans k4
  have hhi := hl.s
  have hE : RE W5 w.heap.size lo hi mb n to_ g := by
    refine ⟨((b0.stays k14 (fun e => e)).stays k5 (fun e => ?_)).c 0 _ rfl, ((b1.stays k14 (fun e => e)).stays k5 (fun e => ?_)).c 0 _ rfl, ((b3.stays k4 (fun e => e)).stays k5 (fun e => ?_)).c 0 _ rfl, e5, ((hl.keep k1 (fun _ _ _ e => e)).keep k14 (fun _ _ _ e => e)).keep k5 (fun b _ h e => ?_), hhi⟩
    · have e : w.heap.size = w.heap.size + 4 := e
      omega
    · have e : w.heap.size + 1 = w.heap.size + 4 := e
      omega
    · have e : w.heap.size + 3 = w.heap.size + 4 := e
      omega
    · have e : b = w.heap.size + 4 := e
      omega
  have hF : FB W5 (w.heap.size + 2) n (mks (fun _ => false)) := ((f2.keep k3 (fun e => e)).keep k4 (fun e => e)).keep k5 (fun e => by have e : w.heap.size + 2 = w.heap.size + 4 := e; omega)
  have hrc := HFD W5 (fun _ => false) from_ hE hF (by rw [um_none]; exact Nat.le_refl _) hf
  have K5 : Keeps (fun _ => False) w W5 := (k1.trans k14).trans' k5 (fun _ _ e => e) (fun i hi e => by have e : i = w.heap.size + 4 := e; omega)
  have HK5 : Hid (∀ w', Keeps (fun i => i = w.heap.size + 2) W5 w' → Keeps (fun _ => False) w w') := fun w' k => K5.trans' k (fun _ _ e => e) (fun i hi e => by have e : i = w.heap.size + 2 := e; omega)
  clear HFD hl hb k1 b0 b1 k2 f2 k3 b3 k4 b4 k5 b5 k14 hhi hE hF K5 hn hlen hf
  go_enter Try.func24, Try.ntmps24
  refine wp_seq_k (fun KK hKK => ?_)
  have hKH : Hid _ := hKK
  clear hKK
  go_wp2_with fail
  refine hKH.out _ _ ?_
  clear hKH KK
  rw [← HW1.out]
  clear HW1
  refine wp_seq_k (fun KK hKK => ?_)
  have hKH : Hid _ := hKK
  clear hKK
  go_wp2_with fail
  refine hKH.out _ _ ?_
  clear hKH KK
  rw [← HW3.out]
  clear HW3
  refine wp_seq_k (fun KK hKK => ?_)
  have hKH : Hid _ := hKK
  clear hKK
  go_wp2_with fail
  refine hKH.out _ _ ?_
  clear hKH KK
  rw [← HW4.out]
  clear HW4
  refine wp_seq_k (fun KK hKK => ?_)
  have hKH : Hid _ := hKK
  clear hKK
  go_wp2_with fail
  refine hKH.out _ _ ?_
  clear hKH KK
  rw [← HW5.out]
  clear HW5 n4 n4z
  go_wp2_with (go_at_call 40; refine hrc.mono ?_; clear hrc; rintro e w6 ⟨x, M', rfl, hW6, hF6, k6⟩)
  go_ret
  refine ⟨x, rfl, ⟨hW6.y, fun h => ?_⟩, HK5.out _ k6⟩
  cases x with
  | true => rfl
  | false => exact absurd h (wkd_none hW6)
end Go.Proofs.Ytfbbllokpikbiab
