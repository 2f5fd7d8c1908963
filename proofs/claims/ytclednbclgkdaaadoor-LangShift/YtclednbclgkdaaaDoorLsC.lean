import Derived.Test.YtclednbclgkdaaaDoorLsB
import Derived.Test.YtclednbclgkdaaaDoorLgI
import Derived.Test.YtclednbclgkdaaaDoorPhJ
import Derived.Deep.QuietTactic
namespace Go.Proofs.YtclednbclgkdaaaDoor
open Go.RowKit Go.Deep Go.ChangeShapes Go.WideShapes Go.ChangeAt
attribute [local go_sem] Oper.semAt_some run_store_nf run_store_f
theorem isl_of_owns_r {W : World} {base n : Nat} {v : Value} {l : List Ins} (h : W.ownsRow base 42 11 v n (icl l)) (hn : l.length = n) : ∃ a cap, v = .slice a n cap ∧ ISL W a l := by
  rcases h.2 with ⟨rfl, h0⟩ | ⟨g, cap, cur, rfl, _⟩
  · have hz : n = 0 := by first | exact h0.1 | omega
    subst hz
    exact ⟨none, 0, rfl, fun i hi => by omega⟩
  · refine ⟨_, cap, rfl, fun i hi => ⟨g, 0, rfl, fun j v hv => ?_⟩⟩
    have e := icl_get l i j v hi hv
    have hc := h.cells (g := g) rfl (i * 11 + j) v e
    rw [add_at] at hc
    rw [Nat.zero_add] at hc ⊢
    exact hc
theorem ls_blk {W : World} {base n : Nat} {e : TypeId} {size : Nat} {a : Option Addr} {cap : Nat} {xs : List Value} (h : W.ownsRow base e size (.slice a n cap) n xs) : ∀ b off, a = some ⟨b, off, none⟩ → b < W.heap.size := fun b off ea => by
  subst ea
  exact owns_lt' h b rfl
def shiftT (f : Func) : Code := match f.body with | some (.seq _ (.seq _ (.seq _ (.seq _ (.seq _ t))))) => t | _ => .skip
set_option maxHeartbeats 2000000 in
set_option maxRecDepth 1000000 in
theorem shift_tail {w : World} {R : Ending → World → Prop} {a al : Option Addr} {n cap N cl k : Nat} {l L : List Ins} {x2 x3 x4 x6 x7 x8 x9 x10 x11 x12 x13 x14 x15 x16 x17 x18 x19 x20 x21 x22 x23 x24 x25 x26 x27 x28 x29 x30 x31 x32 x33 x34 x35 x36 x37 x38 x39 x40 x41 x42 x43 x44 x45 x46 x47 x48 x49 x50 x51 x52 x53 x54 x55 x56 x57 x58 x59 x60 x61 x62 x63 x64 x65 x66 x67 x68 x69 x70 x71 x72 x73 x74 x75 x76 x77 x78 x79 x80 x81 x82 x83 x84 x85 x86 x87 x88 x89 x90 x91 x92 x93 x94 x95 x96 x97 x98 x99 x100 x101 x102 x103 x104 x105 x106 x107 x108 x109 x110 x111 x112 x113 x114 x115 x116 x117 x118 x119 x120 x121 x122 x123 x124 x125 x126 x127 x128 x129 x130 x131 x132 x133 x134 x135 x136 x137 x138 x139 x140 x141 x142 x143 x144 x145 x146 x147 x148 x149 x150 x151 x152 x153 x154 x155 x156 x157 x158 x159 x160 x161 x162 x163 x164 x165 x166 x167 x168 x169 x170 x171 x172 x173 x174 x175 x176 x177 x178 x179 : Value} (hLT : LT w) (hl : ISL w a l) (hn : l.length = n) (hL : ISL w al L) (hLe : L = lng k l) (hN : L.length = N) (hb : n * 88 ≤ 140737488355328) (hk : k ≤ 70) (hJ : JIn l)
    (hR : ∀ w', Keeps (fun _ => False) w w' → R (.returned (.bool true)) w') :
    (shiftT Tryd.f6).wp Tryd.prog (bodyPost Tryd.prog Tryd.f6 R) { tmps := #[.slice a n cap, .int .i64 (k : Int), x2, x3, x4, .slice al N cl, x6, x7, x8, x9, x10, x11, x12, x13, x14, x15, x16, x17, x18, x19, x20, x21, x22, x23, x24, x25, x26, x27, x28, x29, x30, x31, x32, x33, x34, x35, x36, x37, x38, x39, x40, x41, x42, x43, x44, x45, x46, x47, x48, x49, x50, x51, x52, x53, x54, x55, x56, x57, x58, x59, x60, x61, x62, x63, x64, x65, x66, x67, x68, x69, x70, x71, x72, x73, x74, x75, x76, x77, x78, x79, x80, x81, x82, x83, x84, x85, x86, x87, x88, x89, x90, x91, x92, x93, x94, x95, x96, x97, x98, x99, x100, x101, x102, x103, x104, x105, x106, x107, x108, x109, x110, x111, x112, x113, x114, x115, x116, x117, x118, x119, x120, x121, x122, x123, x124, x125, x126, x127, x128, x129, x130, x131, x132, x133, x134, x135, x136, x137, x138, x139, x140, x141, x142, x143, x144, x145, x146, x147, x148, x149, x150, x151, x152, x153, x154, x155, x156, x157, x158, x159, x160, x161, x162, x163, x164, x165, x166, x167, x168, x169, x170, x171, x172, x173, x174, x175, x176, x177, x178, x179], defers := [] } w := by
  have HR : Hid (∀ w', Keeps (fun _ => False) w w' → R (.returned (.bool true)) w') := hR
  clear hR
  have hNk : N = k + n := by rw [← hN, hLe, lng_len, hn]
  have hP := fun W (hl : ISL W a l) => prog_more (w := W) (cap := cap) hl (by omega)
  have hQ := fun W (hl : ISL W al L) => prog_more (w := W) (cap := cl) hl (by omega)
  rw [hn] at hP
  rw [hN] at hQ
  have hCk := fun W a cap (hT : LT W) (hl : ISL W a l) => check_any (w := W) (cap := cap) (a := a) hT hl (by omega)
  have hCK := fun W a cap (hT : LT W) (hl : ISL W a L) => check_any (w := W) (cap := cap) (a := a) hT hl (by omega)
  have hFw := fun W a cap (hT : LT W) (hl : ISL W a l) => forward_any (w := W) (cap := cap) (a := a) hT hl (by omega)
  have hFW := fun W a cap (hT : LT W) (hl : ISL W a L) => forward_any (w := W) (cap := cap) (a := a) hT hl (by omega)
  have hLg := fun W a cap (hT : LT W) (hl : ISL W a l) (hA : ∀ b off, a = some ⟨b, off, none⟩ → b < W.heap.size) => longest_any (w := W) (cap := cap) (a := a) hT hl hA (by omega)
  have hLG := fun W a cap (hT : LT W) (hl : ISL W a L) (hA : ∀ b off, a = some ⟨b, off, none⟩ → b < W.heap.size) => longest_any (w := W) (cap := cap) (a := a) hT hl hA (by omega)
  rw [hn] at hCk hFw hLg
  rw [hN] at hCK hFW hLG
  have hfb : ∀ i, firstBad l l.length l.length = some i → i < l.length := fun i e => fb_some _ (Nat.le_refl _) e
  have hcs := chk_shift (k := k) hJ
  have hce : chk l = if 64 < l.length then (106, 0) else (fbE (firstBad l l.length l.length), fbI (firstBad l l.length l.length)) := rfl
  have hlp : (chk l).1 = 0 → (chk L).1 = 0 → ∀ {x y x' y' : Int}, LgP l x y → LgP L x' y' → y' = y ∧ ((y = 109 ∧ x = 0 ∧ x' = 0) ∨ (y = 0 ∧ x' = x + k ∧ 0 ≤ x ∧ x ≤ (n : Int))) := by
    intro h1 h2 x y x' y' h3 h4
    subst hLe
    rw [← hn]
    exact lgp_shift hJ h1 h2 h3 h4
  have hfw : (chk l).1 = 0 → (chk L).1 = 0 → fwB L = fwB l := by
    intro h1 h2
    subst hLe
    exact fwB_shift h1 h2
  rw [← hLe, hn] at hcs
  rw [hn] at hce hfb
  have H1 : Hid (l.length = n) := hn
  have H2 : Hid (L.length = N) := hN
  rw [← hNk] at hcs
  have HNk : Hid (N = k + n) := hNk
  clear hLe hN hn hJ hNk
  generalize firstBad l (n : Int) n = fb at *
  by_cases h64 : 64 < N
  · rw [if_pos h64] at hcs
    have b1 : decide ((64 : Int) < (N : Int)) = true := decide_eq_true (by omega)
    obtain ⟨ce, hce2⟩ : ∃ ce, (chk l).1 = ce := ⟨_, rfl⟩
    rw [hce2] at hCk
    rw [hcs] at hCK
    clear hcs hce hlp hfw hFw hFW hLg hLG hce2  hfb
    by_cases h106 : ce = 106
    · subst h106
      dsimp only [shiftT, Tryd.f6]
      have K0 := Keeps.refl (fun _ => False) w
      go_wp2_with fail
      refine (hP w (hl.keep K0)).mono ?_
      rintro e w1 ⟨v, rfl, ho, kx⟩
      obtain ⟨a1, cap1, rfl, hI⟩ := isl_of_owns ho H1.out
      have K1 := K0.trans kx
      have cc := hCk w1 a1 cap1 (hLT.keep K1) hI
      clear ho kx hI
      go_wp2_with fail
      refine cc.mono ?_
      clear cc
      rintro e w2 ⟨rfl, kx⟩
      have K2 := K1.trans kx
      clear kx
      go_wp2_with fail
      refine (hQ w2 (hL.keep K2)).mono ?_
      rintro e w3 ⟨v, rfl, ho, kx⟩
      obtain ⟨a2, cap2, rfl, hI⟩ := isl_of_owns ho H2.out
      have K3 := K2.trans kx
      have cc := hCK w3 a2 cap2 (hLT.keep K3) hI
      clear ho kx hI
      go_wp2_with fail
      refine cc.mono ?_
      clear cc
      rintro e w4 ⟨rfl, kx⟩
      have K4 := K3.trans kx
      clear kx
      go_wp2_with fail
      exact HR.out _ K4
    · have b2 : (ce == 106) = false := beq_eq_false_iff_ne.2 h106
      dsimp only [shiftT, Tryd.f6]
      have K0 := Keeps.refl (fun _ => False) w
      go_wp2_with fail
      refine (hP w (hl.keep K0)).mono ?_
      rintro e w1 ⟨v, rfl, ho, kx⟩
      obtain ⟨a1, cap1, rfl, hI⟩ := isl_of_owns ho H1.out
      have K1 := K0.trans kx
      have cc := hCk w1 a1 cap1 (hLT.keep K1) hI
      clear ho kx hI
      go_wp2_with fail
      refine cc.mono ?_
      clear cc
      rintro e w2 ⟨rfl, kx⟩
      have K2 := K1.trans kx
      clear kx
      go_wp2_with fail
      refine (hQ w2 (hL.keep K2)).mono ?_
      rintro e w3 ⟨v, rfl, ho, kx⟩
      obtain ⟨a2, cap2, rfl, hI⟩ := isl_of_owns ho H2.out
      have K3 := K2.trans kx
      have cc := hCK w3 a2 cap2 (hLT.keep K3) hI
      clear ho kx hI
      go_wp2_with fail
      refine cc.mono ?_
      clear cc
      rintro e w4 ⟨rfl, kx⟩
      have K4 := K3.trans kx
      clear kx
      go_wp2_with fail
      exact HR.out _ K4
  · rw [if_neg h64] at hcs
    have h64n := HNk.out
    rw [if_neg (by omega)] at hce
    have hn64 : n ≤ 64 := by omega
    clear h64n
    have b1 : decide ((64 : Int) < (N : Int)) = false := decide_eq_false (by omega)
    cases fb with
    | some i =>
      have hcs : chk L = (108, ((k + i : Nat) : Int)) := hcs
      have hce : chk l = (108, (i : Int)) := hce
      have hi0 := hfb i rfl
      have b3 : IntKind.i64.wrap ((i : Int) + (k : Int)) = ((k + i : Nat) : Int) := by rw [IntKind.wrap_i64]; omega
      rw [hcs] at hCK
      rw [hce] at hCk
      clear hcs hce hlp hfw hFw hFW hLg hLG  hfb
      generalize k + i = ki at *
      dsimp only [shiftT, Tryd.f6]
      have K0 := Keeps.refl (fun _ => False) w
      go_wp2_with fail
      refine (hP w (hl.keep K0)).mono ?_
      rintro e w1 ⟨v, rfl, ho, kx⟩
      obtain ⟨a1, cap1, rfl, hI⟩ := isl_of_owns ho H1.out
      have K1 := K0.trans kx
      have cc := hCk w1 a1 cap1 (hLT.keep K1) hI
      clear ho kx hI
      go_wp2_with fail
      refine cc.mono ?_
      clear cc
      rintro e w2 ⟨rfl, kx⟩
      have K2 := K1.trans kx
      clear kx
      go_wp2_with fail
      refine (hQ w2 (hL.keep K2)).mono ?_
      rintro e w3 ⟨v, rfl, ho, kx⟩
      obtain ⟨a2, cap2, rfl, hI⟩ := isl_of_owns ho H2.out
      have K3 := K2.trans kx
      have cc := hCK w3 a2 cap2 (hLT.keep K3) hI
      clear ho kx hI
      go_wp2_with fail
      refine cc.mono ?_
      clear cc
      rintro e w4 ⟨rfl, kx⟩
      have K4 := K3.trans kx
      clear kx
      go_wp2_with fail
      exact HR.out _ K4
    | none =>
      have hcs : chk L = (0, 0) := hcs
      have hce : chk l = (0, 0) := hce
      have hlp' := fun {x y x' y' : Int} => @hlp (by rw [hce]) (by rw [hcs]) x y x' y'
      have hfw' := hfw (by rw [hce]) (by rw [hcs])
      rw [hfw', hcs] at hFW
      rw [hce] at hFw
      rw [hcs] at hCK
      rw [hce] at hCk
      generalize fwB l = fo at *
      have hff : (fo != fo) = false := by simp
      clear hcs hce hlp hfw hfw'  hfb
      dsimp only [shiftT, Tryd.f6]
      have K0 := Keeps.refl (fun _ => False) w
      go_wp2_with fail
      refine (hP w (hl.keep K0)).mono ?_
      rintro e w1 ⟨v, rfl, ho, kx⟩
      obtain ⟨a1, cap1, rfl, hI⟩ := isl_of_owns ho H1.out
      have K1 := K0.trans kx
      have cc := hCk w1 a1 cap1 (hLT.keep K1) hI
      clear ho kx hI
      go_wp2_with fail
      refine cc.mono ?_
      clear cc
      rintro e w2 ⟨rfl, kx⟩
      have K2 := K1.trans kx
      clear kx
      go_wp2_with fail
      refine (hQ w2 (hL.keep K2)).mono ?_
      rintro e w3 ⟨v, rfl, ho, kx⟩
      obtain ⟨a2, cap2, rfl, hI⟩ := isl_of_owns ho H2.out
      have K3 := K2.trans kx
      have cc := hCK w3 a2 cap2 (hLT.keep K3) hI
      clear ho kx hI
      go_wp2_with fail
      refine cc.mono ?_
      clear cc
      rintro e w4 ⟨rfl, kx⟩
      have K4 := K3.trans kx
      clear kx
      go_wp2_with fail
      refine (hP w4 (hl.keep K4)).mono ?_
      rintro e w5 ⟨v, rfl, ho, kx⟩
      obtain ⟨a3, cap3, rfl, hI⟩ := isl_of_owns ho H1.out
      have K5 := K4.trans kx
      have cc := hFw w5 a3 cap3 (hLT.keep K5) hI
      clear ho kx hI
      go_wp2_with fail
      refine cc.mono ?_
      clear cc
      rintro e w6 ⟨rfl, kx⟩
      have K6 := K5.trans kx
      clear kx
      go_wp2_with fail
      refine (hQ w6 (hL.keep K6)).mono ?_
      rintro e w7 ⟨v, rfl, ho, kx⟩
      obtain ⟨a4, cap4, rfl, hI⟩ := isl_of_owns ho H2.out
      have K7 := K6.trans kx
      have cc := hFW w7 a4 cap4 (hLT.keep K7) hI
      clear ho kx hI
      go_wp2_with fail
      refine cc.mono ?_
      clear cc
      rintro e w8 ⟨rfl, kx⟩
      have K8 := K7.trans kx
      clear kx
      go_wp2_with fail
      refine (hP w8 (hl.keep K8)).mono ?_
      rintro e w9 ⟨v, rfl, ho, kx⟩
      obtain ⟨a5, cap5, rfl, hI⟩ := isl_of_owns ho H1.out
      have K9 := K8.trans kx
      have cc := hLg w9 a5 cap5 (hLT.keep K9) hI (ls_blk ho)
      clear ho kx hI
      go_wp2_with fail
      refine cc.mono ?_
      clear cc
      rintro e w10 ⟨x5, y5, rfl, hg5, kx⟩
      have K10 := K9.trans kx
      clear kx
      go_wp2_with fail
      refine (hQ w10 (hL.keep K10)).mono ?_
      rintro e w11 ⟨v, rfl, ho, kx⟩
      obtain ⟨a6, cap6, rfl, hI⟩ := isl_of_owns ho H2.out
      have K11 := K10.trans kx
      have cc := hLG w11 a6 cap6 (hLT.keep K11) hI (ls_blk ho)
      clear ho kx hI
      go_wp2_with fail
      refine cc.mono ?_
      clear cc
      rintro e w12 ⟨x6, y6, rfl, hg6, kx⟩
      have K12 := K11.trans kx
      clear kx
      obtain ⟨ey, hc⟩ := hlp' hg5 hg6
      clear hlp' hg5 hg6
      subst ey
      have hyy : (y6 != y6) = false := by simp
      rcases hc with ⟨rfl, rfl, rfl⟩ | ⟨rfl, rfl, z1, z2⟩
      · go_wp2_with fail
        exact HR.out _ K12
      · have hx5 : IntKind.i64.wrap (x5 + (k : Int)) = x5 + (k : Int) := by rw [IntKind.wrap_i64]; omega
        go_wp2_with fail
        exact HR.out _ K12
end Go.Proofs.YtclednbclgkdaaaDoor
