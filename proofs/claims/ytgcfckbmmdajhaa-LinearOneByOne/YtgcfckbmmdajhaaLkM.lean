import Derived.Test.YtgcfckbmmdajhaaLkL
namespace Go.Proofs.Ytgcfckbmmdajhaa
open Go.RowKit
set_option maxHeartbeats 1000000 in
set_option maxRecDepth 100000 in
/-- What follows the loop. -/
theorem ob_1 {w0 X : World} {sb base : Nat} {l : List Cl} {U : List Int} {v : Value} {a8 a9 : Option Addr} {c8 c9 n : Nat} {wz bz : Int} {x0 x3 x4 x5 x6 x10 x11 x12 x13 x14 x15 x16 x17 x18 x19 x20 x21 x22 x23 x24 x25 x26 x27 x28 x29 x30 x31 x32 x33 x34 x35 x36 x37 x38 x39 x40 x41 x42 x43 x44 x45 x46 x47 x48 x49 x50 x51 x52 x53 x54 x55 x56 x57 x58 x59 x60 x61 x62 x63 x64 x65 x66 x67 x68 x69 x70 x71 x72 x73 x74 x75 x76 x77 x78 x79 x80 x81 x82 x83 x84 x85 x86 x87 x88 x89 x90 x91 x92 x93 x94 x95 x96 x97 x98 x99 x100 x101 x102 x103 x104 x105 x106 x107 x108 x109 x110 x111 x112 x113 x114 x115 x116 x117 x118 x119 x120 x121 x122 x123 x124 x125 x126 x127 x128 x129 x130 x131 x132 x133 x134 x135 x136 x137 x138 x139 x140 x141 x142 x143 x144 x145 x146 x147 x148 x149 x150 x151 x152 x153 x154 x155 x156 x157 x158 x159 x160 x161 x162 x163 x164 x165 x166 x167 x168 x169 x170 x171 x172 x173 x174 x175 x176 x177 x178 x179 x180 x181 x182 x183 x184 x185 x186 x187 x188 x189 x190 x191 x192 x193 x194 x195 x196 x197 : Value} (hz : I64 bz) (hN : l.length = n) (hn : n ≤ 8) (hO : OneL l) (hg : ∀ k, k < l.length → goK l (List.range l.length) k = true) (hc : ∀ c ∈ l, C64 c) (hs : SU base X sb U v) (hu : US U (setK l (List.range l.length) l.length)) (h8 : X.ownsRow base 33 8 (.slice a8 n c8) n (ccl l)) (h9 : X.ownsRow base 3 1 (.slice a9 n c9) n (pvs (List.range n))) (hbw : w0.heap.size ≤ base) (kX : Keeps (fun _ => False) w0 X) : (obT 6 Try.f3).wp Try.prog (bodyPost Try.prog Try.f3 (fun e w' => e = .returned (.bool true) ∧ Below w0.heap.size w0 w')) { tmps := #[x0, .int .i64 wz, .int .i64 bz, x3, x4, x5, x6, .pointer (some ⟨sb, 0, none⟩), .slice a8 n c8, .slice a9 n c9, x10, x11, x12, x13, x14, x15, x16, x17, x18, x19, x20, x21, x22, x23, x24, x25, x26, x27, x28, x29, x30, x31, x32, x33, x34, x35, x36, x37, x38, x39, x40, x41, x42, x43, x44, x45, x46, x47, x48, x49, x50, x51, x52, x53, x54, x55, x56, x57, x58, x59, x60, x61, x62, x63, x64, x65, x66, x67, x68, x69, x70, x71, x72, x73, x74, x75, x76, x77, x78, x79, x80, x81, x82, x83, x84, x85, x86, x87, x88, x89, x90, x91, x92, x93, x94, x95, x96, x97, x98, x99, x100, x101, x102, x103, x104, x105, x106, x107, x108, x109, x110, x111, x112, x113, x114, x115, x116, x117, x118, x119, x120, x121, x122, x123, x124, x125, x126, x127, x128, x129, x130, x131, x132, x133, x134, x135, x136, x137, x138, x139, x140, x141, x142, x143, x144, x145, x146, x147, x148, x149, x150, x151, x152, x153, x154, x155, x156, x157, x158, x159, x160, x161, x162, x163, x164, x165, x166, x167, x168, x169, x170, x171, x172, x173, x174, x175, x176, x177, x178, x179, x180, x181, x182, x183, x184, x185, x186, x187, x188, x189, x190, x191, x192, x193, x194, x195, x196, x197], defers := [] } X := by
  obtain ⟨a', cap', e', hL, -⟩ := csl_of h8
  injection e' with e1 _ e2
  subst e1 e2
  have hbp := bp_is (cap := c8) hL hc (by omega) hO.may (hO.content hg)
  have HKE : Hid (∀ W, Keeps (fun _ => False) X W → Calls Try.prog 7 #[.slice a8 l.length c8] W fun e w' => ∃ ka kc, e = .returned (.tuple #[.slice ka (keyL l).length kc, .int .i64 0]) ∧ KL w' ka (keyL l) ∧ Keeps (fun _ => False) W w') := fun W kW => ke_is (hL.keep kW) hc (by omega) hO.may
  have HSE : Hid (∀ W, Keeps (fun _ => False) X W → Calls Try.prog 8 #[.slice a8 l.length c8] W fun e w' => ∃ pa pc, e = .returned (.tuple #[.slice pa (List.range l.length).length pc, .bool true, .int .i64 0]) ∧ KL w' pa (iOf (List.range l.length)) ∧ Keeps (fun _ => False) W w') := fun W kW => se_found (hL.keep kW) hc (by omega) hO.may (hO.found hg)
  have hUL : U.length ≤ 1000 := by
    rw [hu.len (rise_setK _ _ _)]
    have := setK_len l (List.range l.length) l.length
    omega
  have HRS : Hid (∀ W ka kc, Keeps (fun _ => False) X W → KL W ka (keyL l) → Calls Try.prog 10 #[.pointer (some ⟨sb, 0, none⟩), .slice ka (keyL l).length kc] W fun e w' => e = .returned (.bool true) ∧ Keeps (fun _ => False) W w') := fun W ka kc kW hk => by
    rw [hO.keys] at hk ⊢
    exact rising_any (hs.keep kW) hu (rise_setK _ _ _) hk hUL
  have HSP : Hid (∀ W pa pc, Keeps (fun _ => False) X W → KL W pa (iOf (List.range l.length)) → Calls Try.prog 11 #[.slice pa (List.range l.length).length pc, .slice a9 n c9] W fun e w' => e = .returned (.bool true) ∧ Keeps (fun _ => False) W w') := fun W pa pc kW hk => by
    have h9' := (PM.of (kW.owns h9 (fun _ _ e => e))).kl
    have := sameP_any (ca := pc) (cb := c9) hk h9' (by rw [iOf_len, List.length_range]; omega)
    rw [iOf_len, iOf_len, List.length_range, List.length_range, hN, show decide (iOf (List.range n) = iOf (List.range n)) = true from decide_eq_true rfl] at this
    rw [List.length_range, hN]
    exact this
  have H2 : Hid (∀ k : Nat, wz = (k : Int) → k < n → ∀ W, Keeps (fun _ => False) X W → ∃ g, a8 = some ⟨g, 0, none⟩ ∧ W.ownsRow base 33 8 (.slice a8 n c8) n (ccl l)) := fun k hk hkn W kW => by
    obtain ⟨b, off, e, _⟩ := hL k (by omega)
    obtain ⟨a2, c2, e3, -, -, h4⟩ := own_slice h8
    injection e3 with e3
    subst e3
    obtain ⟨rfl, -⟩ := h4 b off e
    exact ⟨b, e, kW.owns h8 (fun _ _ e => e)⟩
  have hnu := fun W x => num_any x W
  have HALL : Hid (OneL l ∧ (∀ k, k < l.length → goK l (List.range l.length) k = true) ∧ (∀ c ∈ l, C64 c) ∧ l.length = n ∧ n ≤ 8 ∧ w0.heap.size ≤ base ∧ I64 bz) := ⟨hO, hg, hc, hN, hn, hbw, hz⟩
  rw [hN] at hbp HKE HSE HSP
  rw [List.length_range] at HSE HSP
  generalize hM : (keyL l).length = M at *
  clear hM hL hO hg hc hs hu h8 h9 hbw hUL hN hz
  dsimp only [obT, seqTl, Try.f3]
  refine wp_seq_k (fun KK hKK => ?_)
  have hKH : Hid _ := hKK
  clear hKK
  go_wp2_with (go_at_call 6; refine hbp.mono ?_; clear hbp; rintro e w1 ⟨rfl, K1⟩; have hke := HKE.out w1 K1; clear HKE)
  refine hKH.out _ _ ?_
  clear hKH KK
  refine wp_seq_k (fun KK hKK => ?_)
  have hKH : Hid _ := hKK
  clear hKK
  go_wp2_with (go_at_call 7; refine hke.mono ?_; clear hke; rintro e w2 ⟨ka, kc, rfl, hK2, k2⟩; have K2 := K1.trans k2; have hse := HSE.out w2 K2; clear HSE)
  refine hKH.out _ _ ?_
  clear hKH KK
  refine wp_seq_k (fun KK hKK => ?_)
  have hKH : Hid _ := hKK
  clear hKK
  go_wp2_with (go_at_call 8; refine hse.mono ?_; clear hse; rintro e w3 ⟨pa, pc, rfl, hP3, k3⟩; have K3 := K2.trans k3; have hrs := HRS.out w3 ka kc K3 (hK2.keep k3); clear HRS hK2 k2 k3 K1 K2)
  refine hKH.out _ _ ?_
  clear hKH KK
  refine wp_seq_k (fun KK hKK => ?_)
  have hKH : Hid _ := hKK
  clear hKK
  go_wp2_with (first | (go_at_call 9; refine (hnu _ _).mono ?_; rintro e wn ⟨rfl, hwn⟩; rw [hwn]; clear hwn wn) | (go_at_call 10; refine hrs.mono ?_; clear hrs; rintro e w4 ⟨rfl, k4⟩; have K4 := K3.trans k4; have hsp := HSP.out w4 pa pc K4 (hP3.keep k4); clear HSP hP3 k4 K3) | (go_at_call 11; refine hsp.mono ?_; clear hsp; rintro e w5 ⟨rfl, k5⟩; have K5 := K4.trans k5; clear k5 K4))
  refine hKH.out _ _ ?_
  clear hKH KK
  by_cases hw0 : wz < 0
  · have d1 : decide (wz < 0) = true := decide_eq_true hw0
    clear hw0
    go_wp2_with fail
    go_ret
    exact ⟨rfl, (kX.trans K5).below (Nat.le_refl _) (fun _ _ e => e)⟩
  · have d1 : decide (wz < 0) = false := decide_eq_false hw0
    by_cases hwn : (n : Int) ≤ wz
    · have d2 : decide (wz ≥ (n : Int)) = true := decide_eq_true hwn
      have d3 : decide ((n : Int) ≤ wz) = true := decide_eq_true hwn
      clear hw0 hwn
      go_wp2_with fail
      go_ret
      exact ⟨rfl, (kX.trans K5).below (Nat.le_refl _) (fun _ _ e => e)⟩
    · have d2 : decide (wz ≥ (n : Int)) = false := decide_eq_false hwn
      have d3 : decide ((n : Int) ≤ wz) = false := decide_eq_false hwn
      obtain ⟨k, hk⟩ : ∃ k : Nat, wz = (k : Int) := ⟨wz.toNat, by omega⟩
      obtain ⟨g, ea, hO5⟩ := H2.out k hk (by omega) w5 K5
      have HK : Hid (wz = (k : Int) ∧ k < n) := ⟨hk, by omega⟩
      have HO5 : Hid (w5.ownsRow base 33 8 (.slice a8 n c8) n (ccl l)) := hO5
      have HEA : Hid (a8 = some ⟨g, 0, none⟩) := ea
      clear hw0 hwn hk ea hO5 H2
      refine wp_seq_k (fun KK hKK => ?_)
      have hKH : Hid _ := hKK
      clear hKK
      go_wp2_with fail
      refine hKH.out _ _ ?_
      clear hKH KK
      obtain ⟨hO, hg, hc, hN, hn, hbw, hz⟩ := HALL.out
      obtain ⟨rfl, hkn⟩ := HK.out
      have hO5 := HO5.out
      obtain rfl := HEA.out
      exact ob_2 hz hN hn hkn hO hg hc hO5 hbw (kX.trans K5)
end Go.Proofs.Ytgcfckbmmdajhaa
