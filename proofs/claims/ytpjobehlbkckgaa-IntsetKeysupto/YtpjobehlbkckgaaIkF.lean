import Derived.Test.YtpjobehlbkckgaaIkE
import Derived.Test.YtpjobehlbkckgaaIkD
import Derived.Deep.QuietTactic
namespace Go.Proofs.Ytpjobehlbkckgaa
open Go.RowKit Go.Deep
attribute [local go_sem] Oper.semAt_some run_store_nf run_store_f
def keysT1 (f : Func) : Code := match f.body with | some (.seq _ (.seq _ (.seq _ (.seq _ (.seq _ (.seq _ t)))))) => t | _ => .skip
def keysT2 (f : Func) : Code := match f.body with | some (.seq _ (.seq _ (.seq _ (.seq _ (.seq _ (.seq _ (.seq _ (.seq _ t)))))))) => t | _ => .skip
def keysT3 (f : Func) : Code := match f.body with | some (.seq _ (.seq _ (.seq _ (.seq _ (.seq _ (.seq _ (.seq _ (.seq _ (.seq _ (.seq _ t)))))))))) => t | _ => .skip
def keysT4 (f : Func) : Code := match f.body with | some (.seq _ (.seq _ (.seq _ (.seq _ (.seq _ (.seq _ (.seq _ (.seq _ (.seq _ (.seq _ (.seq _ (.seq _ t)))))))))))) => t | _ => .skip
set_option maxHeartbeats 2000000 in
set_option maxRecDepth 1000000 in
theorem keys_t4 {w1 : World} {R : Ending → World → Prop} {a : Option Addr} {n cap g cr m : Nat} {vs : List V3} {x1 x2 x3 x4 x6 x7 x8 x9 x10 x11 x12 x13 x14 x15 x16 x17 x18 x19 x20 x21 x22 x23 x24 x25 x26 x27 x28 x29 x30 x31 x32 x33 x34 x35 x36 x37 x38 x39 x40 x41 x42 x43 x44 x45 x46 x47 x48 x49 x50 x51 x52 x53 x54 x55 x56 x57 x58 x59 x60 x61 x62 x63 x64 x65 x66 x67 x68 x69 x70 x71 x72 x73 x74 x75 x76 x77 x78 x79 x80 x81 x82 x83 x84 x85 x86 x87 x88 x89 x90 x91 x92 x93 x94 x95 x96 x97 x98 x99 x100 x101 x102 x103 x104 x105 x106 x107 x108 x109 x110 x111 x112 x113 x114 x115 x116 x117 x118 x119 x120 x121 x122 x123 x124 x125 x126 x127 x128 x129 x130 x131 x132 x133 x134 x135 x136 x137 x138 x139 x140 x141 x142 x143 x144 x145 x146 x147 x148 x149 x150 x151 x152 x153 x154 x155 x156 x157 x158 x159 x160 x161 x162 x163 : Value} (hRo : VL w1 (some ⟨g, 0, none⟩) (vs ++ [⟨77, 0, false⟩, ⟨78, 0, false⟩])) (hn : vs.length = n) (hb : n ≤ 1048576) (hm : m = n + 2)
    (hR : ∀ w', Keeps (fun _ => False) w1 w' → R (.returned (.bool true)) w') :
    (keysT4 Try.f3).wp Try.prog (bodyPost Try.prog Try.f3 R) { tmps := #[.slice a n cap, x1, x2, x3, x4, .slice (some ⟨g, 0, none⟩) m cr, x6, x7, x8, x9, x10, x11, x12, x13, x14, x15, x16, x17, x18, x19, x20, x21, x22, x23, x24, x25, x26, x27, x28, x29, x30, x31, x32, x33, x34, x35, x36, x37, x38, x39, x40, x41, x42, x43, x44, x45, x46, x47, x48, x49, x50, x51, x52, x53, x54, x55, x56, x57, x58, x59, x60, x61, x62, x63, x64, x65, x66, x67, x68, x69, x70, x71, x72, x73, x74, x75, x76, x77, x78, x79, x80, x81, x82, x83, x84, x85, x86, x87, x88, x89, x90, x91, x92, x93, x94, x95, x96, x97, x98, x99, x100, x101, x102, x103, x104, x105, x106, x107, x108, x109, x110, x111, x112, x113, x114, x115, x116, x117, x118, x119, x120, x121, x122, x123, x124, x125, x126, x127, x128, x129, x130, x131, x132, x133, x134, x135, x136, x137, x138, x139, x140, x141, x142, x143, x144, x145, x146, x147, x148, x149, x150, x151, x152, x153, x154, x155, x156, x157, x158, x159, x160, x161, x162, x163], defers := [] } w1 := by
  have HR : Hid (∀ w', Keeps (fun _ => False) w1 w' → R (.returned (.bool true)) w') := hR
  clear hR
  obtain ⟨b1, o1, e1, c1, _, _⟩ := hRo n ⟨77, 0, false⟩ (by rw [List.getElem?_append_right (by omega), hn, Nat.sub_self]; rfl)
  cases e1
  obtain ⟨b2, o2, e2, c2, _, _⟩ := hRo (n + 1) ⟨78, 0, false⟩ (by rw [List.getElem?_append_right (by omega), hn, Nat.add_sub_cancel_left]; rfl)
  cases e2
  simp only [Nat.zero_add] at c1 c2
  obtain ⟨W3, hW3⟩ : ∃ W3, W3 = w1.alloc (.cells #[.int .i64 0, .int .i64 1, .bool false, .int .i64 5, .int .i64 2, .bool false, .int .i64 8, .int .i64 (-1), .bool false] 24) := ⟨_, rfl⟩
  have K3 : Keeps (fun _ => False) w1 W3 := by rw [hW3]; exact (Keeps.refl _ w1).alloc _
  have C3 : CL W3 w1.heap.size [.int .i64 0, .int .i64 1, .bool false, .int .i64 5, .int .i64 2, .bool false, .int .i64 8, .int .i64 (-1), .bool false] := by rw [hW3]; exact CL.made w1 _ _
  have V3_ : VL W3 (some ⟨w1.heap.size, 0, none⟩) [⟨0, 1, false⟩, ⟨5, 2, false⟩, ⟨8, -1, false⟩] := fun i v hv => by
    rcases i with _ | _ | _ | i
    · cases hv; exact ⟨_, 0, rfl, C3.c 0 _ rfl, C3.c 1 _ rfl, C3.c 2 _ rfl⟩
    · cases hv; exact ⟨_, 0, rfl, C3.c 3 _ rfl, C3.c 4 _ rfl, C3.c 5 _ rfl⟩
    · cases hv; exact ⟨_, 0, rfl, C3.c 6 _ rfl, C3.c 7 _ rfl, C3.c 8 _ rfl⟩
    · simp at hv
  have hk := keys_any (n := 3) (cap := 3) V3_ rfl (by omega) 0
  have hko : keysOf [⟨0, 1, false⟩, ⟨5, 2, false⟩, ⟨8, -1, false⟩] 0 = some [5, 8] := by decide
  rw [hko] at hk
  have HW : Hid (W3 = _) := hW3
  have m1 : (0 : Int) ≤ (n : Int) := by omega
  have m2 : (n : Int) < (m : Int) := by omega
  have m3 : IntKind.i64.wrap ((n : Int) + 1) = ((n + 1 : Nat) : Int) := by rw [IntKind.wrap_i64]; omega
  have m4 : (0 : Int) ≤ ((n + 1 : Nat) : Int) := by omega
  have m5 : ((n + 1 : Nat) : Int) < (m : Int) := by omega
  clear hW3 C3 V3_ hRo hko hm
  obtain ⟨n1, hn1⟩ : ∃ n1, n + 1 = n1 := ⟨_, rfl⟩
  rw [hn1] at m3 m4 m5 c2
  clear hn1
  dsimp only [keysT4, Try.f3]
  go_wp2_with (go_at_call 5; rw [← HW.out]; refine hk.mono ?_; clear hk; rintro e w4 ⟨v, rfl, ho, k4⟩; have K4 := K3.trans k4; have c1 := K4.cell c1 (fun e => e); have c2 := K4.cell c2 (fun e => e); obtain ⟨av, cv, rfl, hN, hB⟩ := num_of_owns ho rfl; obtain ⟨bv, ov, rfl, d0⟩ := hN 0 5 rfl; obtain ⟨_, _, ea, d1⟩ := hN 1 8 rfl; cases ea; obtain ⟨_, rfl, _⟩ := hB _ _ rfl; clear hB; simp only [Option.isSome_some, Option.getD_some, List.length_cons, List.length_nil, Nat.zero_add, Nat.reduceAdd]; simp only [Nat.add_zero, Nat.zero_add] at d0 d1; clear hN ho k4 K3)
  exact HR.out _ K4
end Go.Proofs.Ytpjobehlbkckgaa
