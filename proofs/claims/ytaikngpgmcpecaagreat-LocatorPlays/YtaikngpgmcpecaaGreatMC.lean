import Derived.Test.YtaikngpgmcpecaaGreatMB
import Derived.Test.YtaikngpgmcpecaaGreatLocQ
namespace Go.Proofs.YtaikngpgmcpecaaGreat
open Go.RowKit
theorem underDO : Tryz.prog.underlying 67 = some (.slice 3) := by kernel_rfl
theorem infoDO : (Tryz.prog.info? 3).map (fun i => (i.zero, i.size, i.bytes)) = some (some (.int .i64 0), 1, 8) := by kernel_rfl
/-- The document's world on its way: its lists as they are. -/
structure DX (w : World) (qb rb : Nat) (sv : Nat → Value) (σ : Nat → Nat) (B : Nat → Prop) (d : Nat → Fd) (m : Mm) : Prop where
  f0 : w.cell? ⟨qb, 0, none⟩ = some (.pointer (some ⟨rb, 0, none⟩))
  ds : DS w qb sv σ d
  ri : RI w rb m B
  ap : ∀ k, DB qb sv k → ¬ B k
section
variable {w w' w1 : World} {qb rb : Nat} {sv : Nat → Value} {σ : Nat → Nat} {d : Nat → Fd} {B D : Nat → Prop} {s : Ws} {m : Mm}
theorem DX.dw (h : DX w qb rb sv σ B (dsw s) m) : DW w qb rb sv σ B s m := ⟨h.f0, h.ds, h.ri, h.ap⟩
theorem DW.dx (h : DW w qb rb sv σ B s m) : DX w qb rb sv σ B (dsw s) m := ⟨h.f0, h.ds, h.ri, h.ap⟩
theorem DX.new (h : DX w qb rb sv σ B d m) (k : Keeps (fun _ => False) w w') : DX w' qb rb sv σ B d m := ⟨k.cell h.f0 id, h.ds.new k, h.ri.new k, h.ap⟩
theorem DX.mem {B' : Nat → Prop} {m' : Mm} (h : DX w qb rb sv σ B d m) (hr : RI w' rb m' B') (l : LeftP w w' B B') : DX w' qb rb sv σ B' d m' :=
  ⟨l.keeps.cell h.f0 (h.ap qb (.inl rfl)), h.ds.keep l.keeps h.ap, hr, fun k hk hb => (l.old k hb).elim (h.ap k hk) (fun e => by have := h.ds.lt hk; omega)⟩
theorem DX.grow (h : DX w qb rb sv σ B d m) {o : Nat} (o1 : 1 ≤ o) (o2 : o ≤ 5) (K1 : Keeps (fun k => (sv o).ownBlock = some k) w w1) {a : Option Addr} {n cap : Nat} {xs : List Value} (ho : w1.ownsRow 0 (d o).ty (d o).sz (.slice a n cap) n xs) (hat : ∀ g, (Value.slice a n cap).ownBlock = some g → (sv o).ownBlock = some g ∨ w.heap.size ≤ g) :
    ∃ σ', DX (w1.setCell ⟨qb, o, none⟩ (.slice a n cap)) qb rb (uf sv o (.slice a n cap)) σ' B (uf d o ⟨(d o).ty, (d o).sz, n, xs⟩) m ∧ LeftP w (w1.setCell ⟨qb, o, none⟩ (.slice a n cap)) (fun k => DB qb sv k ∨ B k) (fun k => DB qb (uf sv o (.slice a n cap)) k ∨ B k) := by
  obtain ⟨σ', hd, hl, hf⟩ := h.ds.grow2 o1 o2 K1 ho hat
  refine ⟨σ', ⟨hf _ h.f0, hd, h.ri.keep hl.keeps (fun i hi e => h.ap i e hi), fun k hk hb => ?_⟩, hl.keeps.mono (fun _ _ e => .inl e), fun k hk => ?_⟩
  · exact (hl.old k hk).elim (fun e => h.ap k e hb) (fun e => by have := h.ri.lt hb; omega)
  · exact hk.elim (fun e => (hl.old k e).imp .inl id) (fun e => .inl (.inr e))
/-- One more in a list. -/
theorem DX.app (h : DX w qb rb sv σ B d m) {o : Nat} (o1 : 1 ≤ o) (o2 : o ≤ 5) {t e size n : Nat} {z : Value} {bytes : Nat} (he : (d o).ty = e) (hs : (d o).sz = size) (hn : (d o).n = n) (ht : Tryz.prog.underlying t = some (.slice e)) (hinfo : (Tryz.prog.info? e).map (fun i => (i.zero, i.size, i.bytes)) = some (some z, size, bytes)) (hz : z.cells.size = size) (hs0 : 0 < size) (hb0 : 0 < bytes) (hk : (n + 1) * bytes ≤ 140737488355328) (q : List Value) (hq : q.length = size) (h1 : ∀ u ∈ q, u.oneCell' = true) :
    ∃ a0 c0 a' c' W', w.cell? ⟨qb, o, none⟩ = some (.slice a0 n c0) ∧ (Builtin.append_ #[t, t] t #[.slice a0 n c0, .slice (some ⟨w.heap.size, 0, none⟩) 1 1]).run Tryz.prog (w.alloc (.cells q.toArray e)) = .ok (.slice a' (n + 1) c') W' ∧ W'.cell? ⟨qb, o, none⟩ = some (.slice a0 n c0) ∧ W'.frozen? ⟨qb, o, none⟩ = false ∧
      ∃ σ', DX (W'.setCell ⟨qb, o, none⟩ (.slice a' (n + 1) c')) qb rb (uf sv o (.slice a' (n + 1) c')) σ' B (uf d o ⟨e, size, n + 1, (d o).xs ++ q⟩) m ∧ LeftP w (W'.setCell ⟨qb, o, none⟩ (.slice a' (n + 1) c')) (fun k => DB qb sv k ∨ B k) (fun k => DB qb (uf sv o (.slice a' (n + 1) c')) k ∨ B k) := by
  have own := h.ds.ow o o1 o2
  rw [he, hs, hn] at own
  obtain ⟨a0, c0, e0, -⟩ := own_slice own
  obtain ⟨v', W', r1, r2, r3, r4⟩ := append_sz ht hinfo hz hs0 own (Nat.zero_le _) hb0 hk q hq h1
  obtain ⟨a', c', rfl, -⟩ := own_slice r2
  have nq : ¬ (sv o).ownBlock = some qb := fun e => by have := h.ds.ps o qb o1 o2 e; rw [h.ds.pq] at this; omega
  obtain ⟨σ', hd, hl⟩ := h.grow o1 o2 r3 (xs := (d o).xs ++ q) (by rw [he, hs]; exact r2) (fun g hg => by
    rcases r4 with e | e
    · exact .inl (by rw [← e]; exact hg)
    · rw [e] at hg
      injection hg with hg
      exact .inr (by omega))
  rw [he, hs] at hd
  exact ⟨a0, c0, a', c', W', by rw [← e0]; exact h.ds.fs o o1 o2, by rw [← e0]; exact r1, by rw [← e0]; exact r3.cell (h.ds.fs o o1 o2) nq, (r3.frozen (p := ⟨qb, o, none⟩) h.ds.ltb nq).trans (h.ds.z o), σ', hd, hl⟩
/-- A world without anything. -/
theorem DX.start {wz : World} (hm : RI w rb m B) (hwz : wz = w.alloc (.cells #[.pointer (some ⟨rb, 0, none⟩), .slice none 0 0, .slice none 0 0, .slice none 0 0, .slice none 0 0, .slice none 0 0] 123)) : DX wz w.heap.size rb (fun _ => .slice none 0 0) (fun _ => 0) B (dsw ⟨[], [], [], []⟩) m := by
  have K : Keeps (fun _ => False) w wz := by rw [hwz]; exact (Keeps.refl _ w).alloc _
  refine ⟨by rw [hwz]; simp, ⟨fun o o1 o2 => ?_, fun o => by rw [hwz]; simp, fun o o1 o2 => ?_, rfl, fun o g o1 o2 e => by cases e⟩, hm.new K, fun k hk hb => ?_⟩
  · have : o = 1 ∨ o = 2 ∨ o = 3 ∨ o = 4 ∨ o = 5 := by omega
    rcases this with rfl | rfl | rfl | rfl | rfl <;> (rw [hwz]; simp)
  · have : o = 1 ∨ o = 2 ∨ o = 3 ∨ o = 4 ∨ o = 5 := by omega
    rcases this with rfl | rfl | rfl | rfl | rfl <;> exact World.ownsRow_nil _ _ _ _
  · have := hm.lt hb
    rcases hk with e | ⟨o, _, _, e⟩
    · omega
    · cases e
theorem dsw_new (vs : List Vl) (c k : Nat) {v : Vl} (hv : vs[k]? = some v) : dsw (nw vs c (k + 1)) = uf (uf (uf (uf (dsw (nw vs c k)) 1 ⟨3, 1, k + 1, fl oc (nw vs c k).objs ++ [.int .i64 ((c + 2 + k : Nat) : Int)]⟩) 3 ⟨103, 3, k + 1, fl Go.Proofs.YtaikngpgmcpecaaGreat.l3 (nw vs c k).locs ++ [.int .i64 0, .int .i64 (k : Int), .int .i64 (k : Int)]⟩) 4 ⟨4, 1, k + 1, fl lu (nw vs c k).locs ++ [.bool true]⟩) 5 ⟨37, 3, k + 1, fl vc3 (nw vs c k).vals ++ vc3 v⟩ := by
  have hk : k < vs.length := (List.getElem?_eq_some_iff.1 hv).1
  have ht : vs.take (k + 1) = vs.take k ++ [v] := by
    rw [List.take_add_one, hv]
    rfl
  funext o
  unfold uf
  by_cases e5 : o = 5
  · subst e5
    simp [dsw, nw, fl, ht]
    omega
  · rw [if_neg e5]
    by_cases e4 : o = 4
    · subst e4
      simp [dsw, nw, fl, lu, List.range_succ]
    · rw [if_neg e4]
      by_cases e3 : o = 3
      · subst e3
        simp [dsw, nw, fl, Go.Proofs.YtaikngpgmcpecaaGreat.l3, List.range_succ]
      · rw [if_neg e3]
        by_cases e1 : o = 1
        · subst e1
          simp [dsw, nw, fl, oc, List.range_succ]
        · rw [if_neg e1]
          unfold dsw
          rw [if_neg e1, if_neg e1]
          by_cases e2 : o = 2
          · rw [if_pos e2, if_pos e2]; rfl
          · rw [if_neg e2, if_neg e2, if_neg e3, if_neg e3, if_neg e4, if_neg e4, if_neg e5, if_neg e5]
end
end Go.Proofs.YtaikngpgmcpecaaGreat
namespace Go.Proofs.YtaikngpgmcpecaaGreat
open Go.RowKit
/-- Values in memory, apart from the blocks of B. -/
def RVL (w : World) (B : Nat → Prop) (a : Option Addr) (vs : List Vl) : Prop := ∀ i, i < vs.length → ∃ b off, a = some ⟨b, off, none⟩ ∧ ¬ B b ∧ w.cell? ⟨b, off + i * 3, none⟩ = some (.int .i64 (vs.getD i vl0).num) ∧ w.cell? ⟨b, off + i * 3 + 1, none⟩ = some (.int .i64 (vs.getD i vl0).next) ∧ w.cell? ⟨b, off + i * 3 + 2, none⟩ = some (.bool (vs.getD i vl0).dead)
theorem rmeq (rb : Nat) : ∀ w : World, (binOp .eql 30 (.pointer (some ⟨rb, 0, none⟩)) (.pointer none)).run Tryz.prog w = .ok (.bool false) w := fun w => by kernel_rfl
section
variable {w : World} {rb : Nat} {B : Nat → Prop} {m : Mm}
set_option maxHeartbeats 3200000 in
set_option maxRecDepth 1000000 in
theorem rNew_ok (hm : RI w rb m B) {a : Option Addr} {vs : List Vl} (hv : RVL w B a vs) (cap : Nat) (h1 : 1 ≤ vs.length) (h80 : vs.length ≤ 80) (hr : m.cells.length + 2 + vs.length ≤ 65536) : Calls Tryz.prog 26 #[.pointer (some ⟨rb, 0, none⟩), .slice a vs.length cap] w fun e w' => e = .returned (.tuple #[.pointer (some ⟨w.heap.size, 0, none⟩), .int .i64 0]) ∧ ∃ D', DI w' w.heap.size rb (nw vs m.cells.length vs.length) (nm m vs.length) D' ∧ LeftP w w' B D' := by
  have hq := rmeq rb
  have hsz := rsize_any hm
  obtain ⟨Wz, hWz⟩ : ∃ x, x = w.alloc (.cells #[.pointer (some ⟨rb, 0, none⟩), .slice none 0 0, .slice none 0 0, .slice none 0 0, .slice none 0 0, .slice none 0 0] 123) := ⟨_, rfl⟩
  have hx := DX.start hm hWz
  have kz : Keeps (fun _ => False) w Wz := by rw [hWz]; exact (Keeps.refl _ w).alloc _
  have HWz : Hid (Wz = w.alloc (.cells #[.pointer (some ⟨rb, 0, none⟩), .slice none 0 0, .slice none 0 0, .slice none 0 0, .slice none 0 0, .slice none 0 0] 123)) := hWz
  have hc1 := rcell_ok hx.dw 2 (by omega)
  have HLZ : Hid (LeftP w Wz B (fun k => DB w.heap.size (fun _ => .slice none 0 0) k ∨ B k)) := ⟨kz.mono (fun _ _ e => e.elim), fun k hk => by
    rcases hk with (e | ⟨_, _, _, e⟩) | e
    · exact .inr (by omega)
    · cases e
    · exact .inl e⟩
  obtain ⟨n, hn⟩ : ∃ x, x = vs.length := ⟨_, rfl⟩
  obtain ⟨c, hc⟩ : ∃ x, x = m.cells.length := ⟨_, rfl⟩
  have HN : Hid (n = vs.length) := hn
  have HC : Hid (c = m.cells.length) := hc
  have HV : Hid (RVL w B a vs) := hv
  rw [← hn] at h1 h80 hr
  rw [← hc] at hr hsz hc1
  rw [← hn, ← hc]
  have d1 : ((n : Int) == 0) = false := by simp; omega
  have d1' : decide (n = 0) = false := by simp; omega
  have d2 : decide ((n : Int) > 80) = false := decide_eq_false (by omega)
  have d3 : decide ((80 : Int) < (n : Int)) = false := decide_eq_false (by omega)
  have d4 : decide (80 < n) = false := decide_eq_false (by omega)
  have g1 : IntKind.i64.wrap ((c : Int) + 2) = (c : Int) + 2 := by rw [IntKind.wrap_i64]; omega
  have g2 : IntKind.i64.wrap ((c : Int) + 2 + (n : Int)) = (c : Int) + 2 + (n : Int) := by rw [IntKind.wrap_i64]; omega
  have g3 : decide ((c : Int) + 2 + (n : Int) > 65536) = false := decide_eq_false (by omega)
  have g4 : decide ((65536 : Int) < (c : Int) + 2 + (n : Int)) = false := decide_eq_false (by omega)
  clear hn hc hv hm hWz hx kz
  go_enter Tryz.func26, Tryz.ntmps26
  refine wp_seq_k (fun KK hKK => ?_)
  have hKH : Hid _ := hKK
  clear hKK
  go_wp2_with fail
  refine hKH.out _ _ ?_
  clear hKH KK
  refine wp_seq_k (fun KK hKK => ?_)
  have hKH : Hid _ := hKK
  clear hKK
  go_wp2_with fail
  refine hKH.out _ _ ?_
  clear hKH KK
  refine wp_seq_k (fun KK hKK => ?_)
  have hKH : Hid _ := hKK
  clear hKK
  go_wp2_with (go_at_call 12; refine hsz.mono ?_; clear hsz; rintro e w' ⟨rfl, e'⟩; obtain rfl := e'.symm)
  refine hKH.out _ _ ?_
  clear hKH KK
  refine wp_seq_k (fun KK hKK => ?_)
  have hKH : Hid _ := hKK
  clear hKK
  go_wp2_with fail
  refine hKH.out _ _ ?_
  clear hKH KK
  refine wp_seq_k (fun KK hKK => ?_)
  have hKH : Hid _ := hKK
  clear hKK
  go_wp2_with fail
  refine hKH.out _ _ ?_
  clear hKH KK
  rw [← HWz.out]
  clear HWz
  refine wp_seq_k (fun KK hKK => ?_)
  have hKH : Hid _ := hKK
  clear hKK
  go_wp2_with (go_at_call 54; refine hc1.mono ?_; clear hc1; rintro e w1 ⟨rfl, B1, h1w, L1⟩)
  refine hKH.out _ _ ?_
  clear hKH KK
  have hc2 := rcell_ok h1w 0 (by rw [Mm.len_make, ← HC.out]; omega)
  rw [Mm.len_make, ← HC.out] at hc2
  refine wp_seq_k (fun KK hKK => ?_)
  have hKH : Hid _ := hKK
  clear hKK
  go_wp2_with (go_at_call 54; refine hc2.mono ?_; clear hc2; rintro e w2 ⟨rfl, B2, h2w, L2⟩)
  refine hKH.out _ _ ?_
  clear hKH KK
  have HL2 : Hid (LeftP w w2 B (fun k => DB w.heap.size (fun _ => .slice none 0 0) k ∨ B2 k)) := (HLZ.out.trans (DW.left L1)).trans (DW.left L2)
  have hx2 := h2w.dx
  clear h1w h2w L1 L2 HLZ
  obtain ⟨ba9, bc9, aa9, ac9, V9, fa9, ra9, qa9, za9, σ9, dx9, la9⟩ := hx2.app (o := 2) (by omega) (by omega) (e := 125) (size := 5) (n := 0) rfl rfl rfl underDA infoDA rfl (by decide) (by decide) (by omega) [.int .i64 (-1), .int .i64 (-1), .int .i64 (-1), .int .i64 (c : Int), .int .i64 ((c : Int) + 1)] rfl (by intro u hu; simp at hu; rcases hu with rfl | rfl | rfl | rfl <;> rfl)
  obtain ⟨W9, hW9⟩ : ∃ x, x = V9.setCell ⟨w.heap.size, 2, none⟩ (.slice aa9 (0 + 1) ac9) := ⟨_, rfl⟩
  rw [← hW9] at dx9 la9
  have HW9 : Hid (W9 = V9.setCell ⟨w.heap.size, 2, none⟩ (.slice aa9 (0 + 1) ac9)) := hW9
  have HX9 : Hid (DX W9 w.heap.size rb _ σ9 _ _ _) := dx9
  have HA9 : Hid (LeftP w2 W9 _ _) := la9
  clear hW9 dx9 la9
  refine wp_seq_k (fun KK hKK => ?_)
  have hKH : Hid _ := hKK
  clear hKK
  go_wp2_with (at_builtin; refine wpList_append_tL rfl _ _ _ rfl _ _ _ V9 rfl rfl ra9 ?_; clear ra9)
  refine hKH.out _ _ ?_
  clear hKH KK
  rw [← HW9.out]
  clear HW9 qa9 za9 fa9
  have HS0 : Hid (DX W9 w.heap.size rb (uf (fun _ => .slice none 0 0) 2 (.slice aa9 (0 + 1) ac9)) σ9 B2 (dsw (nw vs c 0)) (nm m 0)) := by
    have h9 := HX9.out
    show DX _ _ _ _ _ _ _ _
    rw [nw_zero, dsw_beg, nm_zero]
    exact h9
  have HL9 : Hid (LeftP w W9 B (fun k => DB w.heap.size (uf (fun _ => .slice none 0 0) 2 (.slice aa9 (0 + 1) ac9)) k ∨ B2 k)) := HL2.out.trans HA9.out
  clear HX9 HA9 HL2 hx2
  refine wp_seq_k (fun KK hKK => ?_)
  have hKH : Hid _ := hKK
  clear hKK
  go_wp2_with fail
  go_loopg [10] n (fun g iv Wr => ∃ (i : Nat) (sv : Nat → Value) (σ : Nat → Nat) (B' : Nat → Prop), i + g = n ∧ iv = .int .i64 (i : Int) ∧ DX Wr w.heap.size rb sv σ B' (dsw (nw vs c i)) (nm m i) ∧ LeftP w Wr B (fun k => DB w.heap.size sv k ∨ B' k))
  case atStart => exact ⟨0, uf (fun _ => .slice none 0 0) 2 (.slice aa9 (0 + 1) ac9), σ9, B2, by omega, rfl, HS0.out, HL9.out⟩
  case round =>
    obtain ⟨i, sv, σ, B', hig, rfl, hx, hl⟩ := hrel
    have HX : Hid (DX wr w.heap.size rb sv σ B' (dsw (nw vs c i)) (nm m i)) := hx
    have HL : Hid (LeftP w wr B (fun k => DB w.heap.size sv k ∨ B' k)) := hl
    clear hx hl HS0 HL9
    cases gk with
    | zero =>
      have e1 : decide ((i : Int) < (n : Int)) = false := decide_eq_false (by omega)
      have e2 : decide (i < n) = false := decide_eq_false (by omega)
      have HE : Hid (i = n) := by show _ = _; omega
      go_wp2_with fail
      refine hKH.out _ _ ?_
      go_wp2_with fail
      go_ret2
      refine ⟨rfl, _, ⟨sv, σ, B', ?_, rfl⟩, HL.out⟩
      have h := HX.out.dw
      rw [HE.out] at h
      exact h
    | succ g =>
      have hi : i < n := by omega
      have e1 : decide ((i : Int) < (n : Int)) = true := decide_eq_true (by omega)
      have e2 : decide (i < n) = true := decide_eq_true hi
      have e3 : IntKind.i64.wrap ((i : Int) + 1) = (i : Int) + 1 := by rw [IntKind.wrap_i64]; omega
      have hiI : (i : Int) < (n : Int) := by omega
      have hi0 : (0 : Int) ≤ (i : Int) := by omega
      have hc3 := rcell_ok HX.out.dw (i : Int) (by rw [nm_len, ← HC.out]; omega)
      rw [nm_len, ← HC.out, nm_succ] at hc3
      obtain ⟨cn, hcn⟩ : ∃ x, x = c + 2 + i := ⟨_, rfl⟩
      have HCN : Hid (cn = c + 2 + i) := hcn
      rw [← hcn] at hc3
      clear hcn
      have hiv : i < vs.length := by rw [← HN.out]; exact hi
      obtain ⟨b, off, ea, nb, u0, u1, u2⟩ := HV.out i hiv
      have HEA : Hid (a = some ⟨b, off, none⟩) := ea
      have lb : b < w.heap.size := World.block_lt_of_cell? _ _ u0
      obtain ⟨ov, hov⟩ : ∃ x, x = vs.getD i vl0 := ⟨_, rfl⟩
      have HOV : Hid (vs[i]? = some ov) := by rw [hov]; exact getD_get hiv
      rw [← hov] at u0 u1 u2
      have HU : Hid (w.cell? ⟨b, off + i * 3, none⟩ = some (.int .i64 ov.num) ∧ w.cell? ⟨b, off + i * 3 + 1, none⟩ = some (.int .i64 ov.next) ∧ w.cell? ⟨b, off + i * 3 + 2, none⟩ = some (.bool ov.dead)) := ⟨u0, u1, u2⟩
      clear hov hiv u0 u1 u2 ea
      refine wp_seq_k (fun KK2 hKK => ?_)
      have hKH2 : Hid _ := hKK
      clear hKK
      go_wp2_with fail
      refine hKH2.out _ _ ?_
      clear hKH2 KK2
      refine wp_seq_k (fun KK3 hKK => ?_)
      have hKR : Hid _ := hKK
      clear hKK
      refine wp_block ?_
      refine wp_seq_k (fun KK2 hKK => ?_)
      have hKH2 : Hid _ := hKK
      clear hKK
      go_wp2_with (go_at_call 54; refine hc3.mono ?_; clear hc3; rintro e w3 ⟨rfl, B3, h3w, L3⟩)
      refine hKH2.out _ _ ?_
      clear hKH2 KK2
      have HL3 : Hid (LeftP w w3 B (fun k => DB w.heap.size sv k ∨ B3 k)) := HL.out.trans (DW.left L3)
      have hx3 := h3w.dx
      clear h3w L3 HX HL
      obtain ⟨ba14, bc14, aa14, ac14, V14, fa14, ra14, qa14, za14, σ14, dx14, la14⟩ := hx3.app (o := 1) (by omega) (by omega) (e := 3) (size := 1) (n := i) rfl rfl (by simp [dsw, nw]) underDO infoDO rfl (by decide) (by decide) (by omega) [.int .i64 (cn : Int)] rfl (by intro u hu; simp at hu; subst hu; rfl)
      obtain ⟨W14, hW14⟩ : ∃ x, x = V14.setCell ⟨w.heap.size, 1, none⟩ (.slice aa14 (i + 1) ac14) := ⟨_, rfl⟩
      rw [← hW14] at dx14 la14
      have HW14 : Hid (W14 = V14.setCell ⟨w.heap.size, 1, none⟩ (.slice aa14 (i + 1) ac14)) := hW14
      have HX14 : Hid (DX W14 w.heap.size rb _ σ14 _ _ _) := dx14
      have HA14 : Hid (LeftP w3 W14 _ _) := la14
      clear hW14 dx14 la14
      refine wp_seq_k (fun KK2 hKK => ?_)
      have hKH2 : Hid _ := hKK
      clear hKK
      go_wp2_with (at_builtin; refine wpList_append_tL rfl _ _ _ rfl _ _ _ V14 rfl rfl ra14 ?_; clear ra14)
      refine hKH2.out _ _ ?_
      clear hKH2 KK2
      rw [← HW14.out]
      clear HW14 qa14 za14 fa14
      obtain ⟨ba15, bc15, aa15, ac15, V15, fa15, ra15, qa15, za15, σ15, dx15, la15⟩ := HX14.out.app (o := 3) (by omega) (by omega) (e := 103) (size := 3) (n := i) (by rw [uf_other (by decide)]; rfl) (by rw [uf_other (by decide)]; rfl) (by rw [uf_other (by decide)]; simp [dsw, nw]) underDL infoDL rfl (by decide) (by decide) (by omega) [.int .i64 0, .int .i64 (i : Int), .int .i64 (i : Int)] rfl (by intro u hu; simp at hu; rcases hu with rfl | rfl <;> rfl)
      obtain ⟨W15, hW15⟩ : ∃ x, x = V15.setCell ⟨w.heap.size, 3, none⟩ (.slice aa15 (i + 1) ac15) := ⟨_, rfl⟩
      rw [← hW15] at dx15 la15
      have HW15 : Hid (W15 = V15.setCell ⟨w.heap.size, 3, none⟩ (.slice aa15 (i + 1) ac15)) := hW15
      have HX15 : Hid (DX W15 w.heap.size rb _ σ15 _ _ _) := dx15
      have HA15 : Hid (LeftP W14 W15 _ _) := la15
      clear hW15 dx15 la15
      refine wp_seq_k (fun KK2 hKK => ?_)
      have hKH2 : Hid _ := hKK
      clear hKK
      go_wp2_with (at_builtin; refine wpList_append_tL rfl _ _ _ rfl _ _ _ V15 rfl rfl ra15 ?_; clear ra15)
      refine hKH2.out _ _ ?_
      clear hKH2 KK2
      rw [← HW15.out]
      clear HW15 qa15 za15 fa15
      obtain ⟨ba16, bc16, aa16, ac16, V16, fa16, ra16, qa16, za16, σ16, dx16, la16⟩ := HX15.out.app (o := 4) (by omega) (by omega) (e := 4) (size := 1) (n := i) (by rw [uf_other (by decide), uf_other (by decide)]; rfl) (by rw [uf_other (by decide), uf_other (by decide)]; rfl) (by rw [uf_other (by decide), uf_other (by decide)]; simp [dsw, nw]) underDB infoDB rfl (by decide) (by decide) (by omega) [.bool true] rfl (by intro u hu; simp at hu; subst hu; rfl)
      obtain ⟨W16, hW16⟩ : ∃ x, x = V16.setCell ⟨w.heap.size, 4, none⟩ (.slice aa16 (i + 1) ac16) := ⟨_, rfl⟩
      rw [← hW16] at dx16 la16
      have HW16 : Hid (W16 = V16.setCell ⟨w.heap.size, 4, none⟩ (.slice aa16 (i + 1) ac16)) := hW16
      have HX16 : Hid (DX W16 w.heap.size rb _ σ16 _ _ _) := dx16
      have HA16 : Hid (LeftP W15 W16 _ _) := la16
      clear hW16 dx16 la16
      refine wp_seq_k (fun KK2 hKK => ?_)
      have hKH2 : Hid _ := hKK
      clear hKK
      go_wp2_with (at_builtin; refine wpList_append_tL rfl _ _ _ rfl _ _ _ V16 rfl rfl ra16 ?_; clear ra16)
      refine hKH2.out _ _ ?_
      clear hKH2 KK2
      rw [← HW16.out]
      clear HW16 qa16 za16 fa16
      have HL16 : Hid (LeftP w W16 B (fun k => DB w.heap.size (uf (uf (uf sv 1 (.slice aa14 (i + 1) ac14)) 3 (.slice aa15 (i + 1) ac15)) 4 (.slice aa16 (i + 1) ac16)) k ∨ B3 k)) := ((HL3.out.trans HA14.out).trans HA15.out).trans HA16.out
      have hd8 := HX16.out.ds
      have hnv : (nw vs c i).vals.length = i := by have := HN.out; simp [nw]; omega
      have own5 := hd8.ow 5 (by omega) (by omega)
      obtain ⟨a5, cp5, es5, -⟩ := own_slice own5
      rw [es5, uf_other (by decide), uf_other (by decide), uf_other (by decide)] at own5
      have own5 : W16.ownsRow 0 37 3 (.slice a5 _ cp5) (nw vs c i).vals.length (fl vc3 (nw vs c i).vals) := own5
      rw [uf_other (by decide), uf_other (by decide), uf_other (by decide)] at es5
      have es5 : (uf (uf (uf sv 1 (.slice aa14 (i + 1) ac14)) 3 (.slice aa15 (i + 1) ac15)) 4 (.slice aa16 (i + 1) ac16)) 5 = .slice a5 (nw vs c i).vals.length cp5 := by rw [uf_other (by decide), uf_other (by decide), uf_other (by decide)]; exact es5
      rw [hnv] at es5
      have own5 : W16.ownsRow 0 37 3 (.slice a5 (nw vs c i).vals.length cp5) (nw vs c i).vals.length (fl vc3 (nw vs c i).vals) := own5
      rw [hnv] at own5
      have O5 : Hid (W16.ownsRow 0 37 3 (.slice a5 i cp5) i (fl vc3 (nw vs c i).vals)) := own5
      have f5 : W16.cell? ⟨w.heap.size, 5, none⟩ = some (.slice a5 i cp5) := by rw [← es5]; exact hd8.fs 5 (by omega) (by omega)
      have u0 := HL16.out.keeps.cell HU.out.1 nb
      have u1 := HL16.out.keeps.cell HU.out.2.1 nb
      have u2 := HL16.out.keeps.cell HU.out.2.2 nb
      have z5 := hd8.z 5
      have lq9 := hd8.ltb
      have nw2 : ¬ some w.heap.size = (Value.slice a5 i cp5).ownBlock := fun e => by
        have := hd8.ps 5 w.heap.size (by omega) (by omega) (by rw [es5]; exact e.symm)
        rw [hd8.pq] at this
        omega
      have HES : Hid ((uf (uf (uf sv 1 (.slice aa14 (i + 1) ac14)) 3 (.slice aa15 (i + 1) ac15)) 4 (.slice aa16 (i + 1) ac16)) 5 = .slice a5 i cp5) := es5
      obtain ⟨i0, hi0', hz0, hz1, hz2⟩ := info_parts infoV'
      have h63 : i + 1 ≤ maxLen := by unfold maxLen; omega
      have hby : (i + 1) * 24 ≤ 140737488355328 := by omega
      have n5 := World.new_ne W16 _ f5
      have n6 := World.new_ne W16 _ u0
      have n7 := World.new_ne W16 _ u1
      have n8 := World.new_ne W16 _ u2
      have q1 : ∀ ob, (W16.alloc ob).cell? ⟨w.heap.size, 5, none⟩ = some (.slice a5 i cp5) := fun ob => ((Keeps.refl (fun _ => False) W16).alloc ob).cell f5 id
      have ka : ∀ (ob : Obj), (W16.alloc ob).drew.cell? ⟨w.heap.size, 5, none⟩ = some (.slice a5 i cp5) ∧ (W16.alloc ob).drew.frozen? ⟨w.heap.size, 5, none⟩ = false := fun ob =>
        ⟨(((Keeps.refl (fun _ => False) W16).alloc ob).drew).cell f5 (fun e => e), ((((Keeps.refl (fun _ => False) W16).alloc ob).drew).frozen (p := ⟨w.heap.size, 5, none⟩) lq9 (fun e => e)).trans z5⟩
      obtain rfl := HEA.out
      clear hd8 es5 own5 HU HEA HL3 HA14 HA15 HA16 HX14 HX15 hx3
      go_region_law ((refine step_append_lies _ (by rfl) _ _ _ (by rfl) 0 37 i0 _ 3 24 uVv hi0' hz0 hz1 hz2 rfl (by omega) (.slice a5 i cp5) i (fl vc3 (nw vs c i).vals) (by rfl) ((O5.out.alloc _).drew) ⟨W16.heap.size, 0, none⟩ 1 1 [.int .i64 ov.num, .int .i64 ov.next, .bool ov.dead] (by rfl) (by rfl) (World.news_of_block (cs := #[.int .i64 ov.num, .int .i64 ov.next, .bool ov.dead]) (t := 37) (fr := (0, 0)) (heap_alloc_new W16 _)) (by simp [Value.oneCell']) (by omega) h63 hby (Nat.zero_le _) (W16.heap.size + 1) (by simp) ?_; intro gg cap1 w10 hown1 hgrow hat hlt1; have r1 := (hgrow.cell_far ⟨w.heap.size, 5, none⟩ (by simp; omega) nw2).trans (ka _).1; have r2 := (hgrow.frozen_far ⟨w.heap.size, 5, none⟩ (by simp; omega) nw2).trans (ka _).2))
      all_goals
        have K1 : Keeps (fun k => ((uf (uf (uf sv 1 (.slice aa14 (i + 1) ac14)) 3 (.slice aa15 (i + 1) ac15)) 4 (.slice aa16 (i + 1) ac16)) 5).ownBlock = some k) W16 w10 := by
          rw [HES.out]
          exact (((Keeps.refl (fun _ => False) W16).alloc _).drew).trans' ((Keeps.refl (fun k => (Value.slice a5 i cp5).ownBlock = some k) _).grown hgrow (fun _ _ e => e)) (fun _ _ e => e.elim) (fun _ _ e => e)
        obtain ⟨σ', d10, l10⟩ := HX16.out.grow (o := 5) (by omega) (by omega) K1 (a := some ⟨gg, 0, none⟩) (n := i + 1) (cap := cap1) (xs := fl vc3 (nw vs c i).vals ++ vc3 ov) (by rw [uf_other (by decide), uf_other (by decide), uf_other (by decide)]; exact hown1) (fun g e => by
          have e : some gg = some g := e
          injection e with e
          subst e
          rw [HES.out]
          exact hat.imp id (fun e => by rw [e]; simp))
        have HDX : Hid (DX (w10.setCell ⟨w.heap.size, 5, none⟩ (.slice (some ⟨gg, 0, none⟩) (i + 1) cap1)) w.heap.size rb (uf (uf (uf (uf sv 1 (.slice aa14 (i + 1) ac14)) 3 (.slice aa15 (i + 1) ac15)) 4 (.slice aa16 (i + 1) ac16)) 5 (.slice (some ⟨gg, 0, none⟩) (i + 1) cap1)) σ' B3 (dsw (nw vs c (i + 1))) (nm m (i + 1))) := by
          have hnew := dsw_new vs c i HOV.out
          rw [← HCN.out] at hnew
          show DX _ _ _ _ _ _ _ _
          rw [hnew]
          exact d10
        have HL17 : Hid (LeftP w (w10.setCell ⟨w.heap.size, 5, none⟩ (.slice (some ⟨gg, 0, none⟩) (i + 1) cap1)) B (fun k => DB w.heap.size (uf (uf (uf (uf sv 1 (.slice aa14 (i + 1) ac14)) 3 (.slice aa15 (i + 1) ac15)) 4 (.slice aa16 (i + 1) ac16)) 5 (.slice (some ⟨gg, 0, none⟩) (i + 1) cap1)) k ∨ B3 k)) := HL16.out.trans l10
        have s2 : (w10.setCell ⟨w.heap.size, 5, none⟩ (.slice (some ⟨gg, 0, none⟩) (i + 1) cap1)).cell? ⟨w.heap.size, 5, none⟩ = some (.slice (some ⟨gg, 0, none⟩) (i + 1) cap1) := World.cell?_setCell_same _ _ _ r1
        clear hown1 hgrow hat hlt1 ka q1 O5 K1 d10 l10 HL16
        (try simp only [Exit.then, Exit.inBlock])
        refine hKR.out _ _ ?_
        clear hKR KK3
        go_wp2_with fail
        go_roundg g
        case measure => omega
        case rel => exact ⟨i + 1, _, σ', B3, by omega, by go_num, HDX.out, HL17.out⟩
end
end Go.Proofs.YtaikngpgmcpecaaGreat
namespace Go.Proofs.YtaikngpgmcpecaaGreat
open Go.RowKit
section
variable {s s1 s2 : Ws} {m m1 m2 : Mm} {o : Oq} {e1 e2 n1 n2 : Int} {d1 d2 : Bool}
/-- A step that goes well has no error. -/
theorem Do.errs (h : Do s m o s1 m1 e1 d1 n1) : e1 = err s m o := by
  cases h with
  | idle h => rw [err, if_neg (by omega), if_neg (by omega), if_neg (by omega), if_neg (by omega), if_neg (by omega), if_neg (by omega), if_neg (by omega)]
  | no _ _ _ _ hx => exact hx
  | att h hr => rw [err, if_pos h, if_pos hr]
  | mk h x y ex ey h1 hx hy hC hr => rw [err, if_neg (by omega), if_pos h, if_neg (by omega), if_neg (by omega), if_neg (by rw [ey, Int.toNat_natCast, hC]; decide), if_neg (by omega)]
  | put h x ex hx ho hC => rw [err, if_neg (by omega), if_neg (by omega), if_pos h, if_neg (by omega), if_neg (by rw [ex, Int.toNat_natCast]; exact ho), if_neg (by rw [ex, Int.toNat_natCast, hC]; decide)]
  | load h x ex hx hf => rw [err, if_neg (by omega), if_neg (by omega), if_neg (by omega), if_pos h, if_neg (by omega), if_pos hf]
  | acq h x y z ex ey ez hx hy hz hU hC hf => rw [err, if_neg (by omega), if_neg (by omega), if_neg (by omega), if_neg (by omega), if_pos h, if_neg (by omega), if_neg (by omega), if_neg (by rw [ez, Int.toNat_natCast, hU]; decide), if_neg (by rw [ez, Int.toNat_natCast, hC]; decide), if_pos hf]
  | stat h x ex hx hf => rw [err, if_neg (by omega), if_neg (by omega), if_neg (by omega), if_neg (by omega), if_neg (by omega), if_pos (by omega), if_neg (by omega), if_pos hf]
  | fin sv h x ex h1 hx hf => rw [err, if_neg (by omega), if_neg (by omega), if_neg (by omega), if_neg (by omega), if_neg (by omega), if_neg (by omega), if_pos (by omega), if_neg (by omega), if_pos hf]
  | flag h x ex hx hf => rw [err, if_neg (by omega), if_neg (by omega), if_neg (by omega), if_neg (by omega), if_neg (by omega), if_pos (by omega), if_neg (by omega), if_pos hf]
  | mark h x p q ex h1 hx hf hpq => rw [err, if_neg (by omega), if_neg (by omega), if_neg (by omega), if_neg (by omega), if_neg (by omega), if_neg (by omega), if_pos (by omega), if_neg (by omega), if_pos hf]
/-- A step does one thing alone. -/
theorem Do.one (h : Do s m o s1 m1 e1 d1 n1) (k : Do s m o s2 m2 e2 d2 n2) : s1 = s2 ∧ m1 = m2 ∧ e1 = e2 ∧ d1 = d2 ∧ n1 = n2 := by
  have eh := h.errs
  have ek := k.errs
  have ee : e1 = e2 := eh.trans ek.symm
  clear eh ek
  cases h with
  | idle h => cases k with
    | idle _ => exact ⟨rfl, rfl, rfl, rfl, rfl⟩
    | _ => exfalso; omega
  | no e he h hs hx => cases k with
    | no _ _ _ _ _ => exact ⟨rfl, rfl, ee, rfl, rfl⟩
    | _ => exfalso; omega
  | att h hr => cases k with
    | att _ _ => exact ⟨rfl, rfl, rfl, rfl, rfl⟩
    | _ => exfalso; omega
  | mk h x y ex ey _ _ _ _ _ => cases k with
    | mk h' x' y' ex' ey' _ _ _ _ _ =>
      obtain rfl : x = x' := by omega
      obtain rfl : y = y' := by omega
      exact ⟨rfl, rfl, rfl, rfl, rfl⟩
    | _ => exfalso; omega
  | put h x ex _ _ _ => cases k with
    | put h' x' ex' _ _ _ =>
      obtain rfl : x = x' := by omega
      exact ⟨rfl, rfl, rfl, rfl, rfl⟩
    | _ => exfalso; omega
  | load h x ex _ _ => cases k with
    | load h' x' ex' _ _ =>
      obtain rfl : x = x' := by omega
      exact ⟨rfl, rfl, rfl, rfl, rfl⟩
    | _ => exfalso; omega
  | acq h x y z ex ey ez _ _ _ _ _ _ => cases k with
    | acq h' x' y' z' ex' ey' ez' _ _ _ _ _ _ =>
      obtain rfl : x = x' := by omega
      obtain rfl : y = y' := by omega
      obtain rfl : z = z' := by omega
      exact ⟨rfl, rfl, rfl, rfl, rfl⟩
    | _ => exfalso; omega
  | stat h x ex _ _ => cases k with
    | stat h' x' ex' _ _ =>
      obtain rfl : x = x' := by omega
      exact ⟨rfl, rfl, rfl, rfl, rfl⟩
    | _ => exfalso; omega
  | fin sv h x ex _ _ _ => cases k with
    | fin sv' h' x' ex' _ _ _ =>
      obtain rfl : x = x' := by omega
      obtain rfl : sv = sv' := by omega
      exact ⟨rfl, rfl, rfl, rfl, rfl⟩
    | _ => exfalso; omega
  | flag h x ex _ _ => cases k with
    | flag h' x' ex' _ _ =>
      obtain rfl : x = x' := by omega
      exact ⟨rfl, rfl, rfl, rfl, rfl⟩
    | _ => exfalso; omega
  | mark h x p q ex _ _ _ hpq => cases k with
    | mark h' x' p' q' ex' _ _ _ hpq' =>
      obtain rfl : x = x' := by omega
      rcases hpq with ⟨a, rfl, rfl⟩ | ⟨a, rfl, rfl⟩ <;> rcases hpq' with ⟨b, rfl, rfl⟩ | ⟨b, rfl, rfl⟩
      · exact ⟨rfl, rfl, rfl, rfl, rfl⟩
      · rw [a] at b; cases b
      · rw [a] at b; cases b
      · exact ⟨rfl, rfl, rfl, rfl, rfl⟩
    | _ => exfalso; omega
end
section
variable {w : World} {qb rb : Nat} {sv : Nat → Value} {σ : Nat → Nat} {B : Nat → Prop} {s : Ws} {m : Mm}
/-- What a call of the document's leaves that does a step. -/
def RDid (w : World) (qb rb : Nat) (D : Nat → Prop) (s : Ws) (m : Mm) (o : Oq) (w' : World) (er : Int) (d : Bool) (n : Int) : Prop := ∃ s' m' D', Do s m o s' m' er d n ∧ DI w' qb rb s' m' D' ∧ LeftP w w' D D'
theorem rdid_no {o : Oq} {er : Int} (h : DW w qb rb sv σ B s m) (he : er ≠ 0) (hk : o.kind = 1 ∨ o.kind = 3 ∨ o.kind = 6 ∨ (8 ≤ o.kind ∧ o.kind ≤ 14)) (hs : o.kind = 10 → (o.a < 0 ∨ (s.atts.length : Int) ≤ o.a) ∨ m.free = false) (hx : er = err s m o) {w' : World} (k : Keeps (fun _ => False) w w') : RDid w qb rb (fun k => DB qb sv k ∨ B k) s m o w' er false 0 := ⟨s, m, _, .no er he hk hs hx, ⟨sv, σ, B, h.new k, rfl⟩, LeftP.new k⟩
theorem rAttempt_any (h : DW w qb rb sv σ B s m) (_ : Inv s m) (_ : m.fit) (hcl : m.cells.length ≤ 65536) (_ : (m.log.length + 1) * 56 ≤ 140737488355328) {o : Oq} (hk : o.kind = 1) :
    Calls Tryz.prog 68 #[.pointer (some ⟨qb, 0, none⟩), .agg #[.int .i64 o.a, .int .i64 o.b, .int .i64 o.c]] w fun e w' => ∃ er n, e = .returned (.tuple #[.int .i64 n, .int .i64 er]) ∧ RDid w qb rb (fun k => DB qb sv k ∨ B k) s m o w' er false n := by
  have hd : DI w qb rb s m _ := ⟨sv, σ, B, h, rfl⟩
  cases hr : s.roomA m with
  | true =>
    refine (rAttempt_ok hd o.a o.b o.c hr).mono ?_
    rintro e w' ⟨rfl, D', h', x'⟩
    exact ⟨_, _, rfl, _, _, D', .att hk hr, h', x'⟩
  | false =>
    refine (rAttempt_no h o.a o.b o.c hr hcl).mono ?_
    rintro e w' ⟨rfl, k⟩
    exact ⟨_, _, rfl, rdid_no h (by decide) (.inl hk) (by omega) (by simp [err, hk, hr]) k⟩
theorem rMake_any (h : DW w qb rb sv σ B s m) (iv : Inv s m) (hg : m.fit) (_ : m.cells.length ≤ 65536) (hlog : (m.log.length + 1) * 56 ≤ 140737488355328) {o : Oq} (hk : o.kind = 3) :
    Calls Tryz.prog 69 #[.pointer (some ⟨qb, 0, none⟩), .int .i64 o.a, .int .i64 o.b] w fun e w' => ∃ er n, e = .returned (.tuple #[.int .i64 n, .int .i64 er]) ∧ RDid w qb rb (fun k => DB qb sv k ∨ B k) s m o w' er false n := by
  have hq : o.kind = 1 ∨ o.kind = 3 ∨ o.kind = 6 ∨ (8 ≤ o.kind ∧ o.kind ≤ 14) := .inr (.inl hk)
  have hd : DI w qb rb s m _ := ⟨sv, σ, B, h, rfl⟩
  have hl : m.log.length ≤ 4611686018427387903 := by omega
  rcases nat_or o.a s.atts.length with ha | ⟨x, ex, hx⟩
  · refine (rMake_att h (inn_no1 (by omega)) o.b).mono ?_
    rintro e w' ⟨rfl, k⟩
    exact ⟨_, _, rfl, rdid_no h (by decide) hq (by omega) (by rw [err, if_neg (by omega), if_pos hk, if_pos (by omega)]) k⟩
  · rw [ex]
    rcases Nat.eq_zero_or_pos x with rfl | h1
    · refine (rMake_att h (att := ((0 : Nat) : Int)) (inn_no1 (by omega)) o.b).mono ?_
      rintro e w' ⟨rfl, k⟩
      exact ⟨_, _, rfl, rdid_no h (by decide) hq (by omega) (by rw [err, if_neg (by omega), if_pos hk, if_pos (by omega)]) k⟩
    · rcases nat_or o.b s.locs.length with hb | ⟨y, ey, hy⟩
      · refine (rMake_ver h h1 hx (inn_no hb)).mono ?_
        rintro e w' ⟨rfl, k⟩
        exact ⟨_, _, rfl, rdid_no h (by decide) hq (by omega) (by rw [err, if_neg (by omega), if_pos hk, if_neg (by omega), if_pos hb]) k⟩
      · rw [ey]
        cases hC : s.isC m (s.lo y).owner with
        | false =>
          refine (rMake_may h hg hl iv.wf h1 hx hy hC).mono ?_
          rintro e w' ⟨rfl, k⟩
          exact ⟨_, _, rfl, rdid_no h (by decide) hq (by omega) (by rw [err, if_neg (by omega), if_pos hk, if_neg (by omega), if_neg (by omega), if_pos (by rw [ey, Int.toNat_natCast]; exact hC)]) k⟩
        | true =>
          by_cases hr : s.locs.length < 16384
          · refine (rMake_ok hd hg hl iv.wf h1 hx hy hC hr).mono ?_
            rintro e w' ⟨rfl, D', h', x'⟩
            exact ⟨_, _, rfl, _, _, D', .mk hk x y ex ey h1 hx hy hC hr, h', x'⟩
          · refine (rMake_room h hg hl iv.wf h1 hx hy hC (by omega)).mono ?_
            rintro e w' ⟨rfl, k⟩
            exact ⟨_, _, rfl, rdid_no h (by decide) hq (by omega) (by rw [err, if_neg (by omega), if_pos hk, if_neg (by omega), if_neg (by omega), if_neg (by rw [ey, Int.toNat_natCast, hC]; decide), if_pos (by omega)]) k⟩
theorem rPut_any (h : DW w qb rb sv σ B s m) (iv : Inv s m) (hg : m.fit) (_ : m.cells.length ≤ 65536) (hlog : (m.log.length + 1) * 56 ≤ 140737488355328) {o : Oq} (hk : o.kind = 6) :
    Calls Tryz.prog 70 #[.pointer (some ⟨qb, 0, none⟩), .int .i64 o.a, .agg #[.int .i64 o.v.num, .int .i64 o.v.next, .bool o.v.dead]] w fun e w' => ∃ er, e = .returned (.int .i64 er) ∧ RDid w qb rb (fun k => DB qb sv k ∨ B k) s m o w' er false 0 := by
  have hq : o.kind = 1 ∨ o.kind = 3 ∨ o.kind = 6 ∨ (8 ≤ o.kind ∧ o.kind ≤ 14) := .inr (.inr (.inl hk))
  have hd : DI w qb rb s m _ := ⟨sv, σ, B, h, rfl⟩
  have hl : m.log.length ≤ 4611686018427387903 := by omega
  rcases nat_or o.a s.locs.length with ha | ⟨x, ex, hx⟩
  · refine (rPut_loc h (inn_no ha) o.v).mono ?_
    rintro e w' ⟨rfl, k⟩
    exact ⟨_, rfl, rdid_no h (by decide) hq (by omega) (by rw [err, if_neg (by omega), if_neg (by omega), if_pos hk, if_pos ha]) k⟩
  · rw [ex]
    by_cases ho : (s.lo x).owner = 0
    · refine (rPut_own h hx ho o.v).mono ?_
      rintro e w' ⟨rfl, k⟩
      exact ⟨_, rfl, rdid_no h (by decide) hq (by omega) (by rw [err, if_neg (by omega), if_neg (by omega), if_pos hk, if_neg (by omega), if_pos (by rw [ex, Int.toNat_natCast]; exact ho)]) k⟩
    · cases hC : s.isC m (s.lo x).owner with
      | true =>
        refine (rPut_done h hg hl iv.wf hx ho hC o.v).mono ?_
        rintro e w' ⟨rfl, k⟩
        exact ⟨_, rfl, rdid_no h (by decide) hq (by omega) (by rw [err, if_neg (by omega), if_neg (by omega), if_pos hk, if_neg (by omega), if_neg (by rw [ex, Int.toNat_natCast]; exact ho), if_pos (by rw [ex, Int.toNat_natCast]; exact hC)]) k⟩
      | false =>
        refine (rPut_ok hd hg hl iv.wf hx ho hC o.v).mono ?_
        rintro e w' ⟨rfl, D', h', x'⟩
        exact ⟨_, rfl, _, _, D', .put hk x ex hx ho hC, h', x'⟩
theorem rLoad_any (h : DW w qb rb sv σ B s m) (iv : Inv s m) (hg : m.fit) (_ : m.cells.length ≤ 65536) (hlog : (m.log.length + 1) * 56 ≤ 140737488355328) {o : Oq} (hk : o.kind = 8) :
    Calls Tryz.prog 33 #[.pointer (some ⟨qb, 0, none⟩), .int .i64 o.a] w fun e w' => ∃ er n, e = .returned (.tuple #[.int .i64 n, .int .i64 er]) ∧ RDid w qb rb (fun k => DB qb sv k ∨ B k) s m o w' er false n := by
  have hq : o.kind = 1 ∨ o.kind = 3 ∨ o.kind = 6 ∨ (8 ≤ o.kind ∧ o.kind ≤ 14) := by omega
  have hd : DI w qb rb s m _ := ⟨sv, σ, B, h, rfl⟩
  have hl : m.log.length ≤ 4611686018427387903 := by omega
  rcases nat_or o.a s.objs.length with ha | ⟨x, ex, hx⟩
  · refine (rLoad_no h (inn_no ha)).mono ?_
    rintro e w' ⟨rfl, k⟩
    exact ⟨_, _, rfl, rdid_no h (by decide) hq (by omega) (by rw [err, if_neg (by omega), if_neg (by omega), if_neg (by omega), if_pos hk, if_pos ha]) k⟩
  · rw [ex]
    cases hf : m.free with
    | false =>
      refine (rLoad_cl h hx (iv.wf.ob x hx).1 hf).mono ?_
      rintro e w' ⟨rfl, k⟩
      exact ⟨_, _, rfl, rdid_no h (by decide) hq (by omega) (by rw [err, if_neg (by omega), if_neg (by omega), if_neg (by omega), if_pos hk, if_neg (by omega), if_neg (by rw [hf]; decide)]) k⟩
    | true =>
      refine (rLoad_ok h hg hx (iv.wf.ob x hx).1 hf hlog).mono ?_
      rintro e w' ⟨rfl, B', h', x'⟩
      exact ⟨_, _, rfl, _, _, _, .load hk x ex hx hf, ⟨sv, σ, B', h', rfl⟩, DW.left x'⟩
theorem rStatus_any (h : DW w qb rb sv σ B s m) (iv : Inv s m) (hg : m.fit) (_ : m.cells.length ≤ 65536) (hlog : (m.log.length + 1) * 56 ≤ 140737488355328) {o : Oq} (hk : o.kind = 10) :
    Calls Tryz.prog 35 #[.pointer (some ⟨qb, 0, none⟩), .int .i64 o.a] w fun e w' => ∃ er n, e = .returned (.tuple #[.int .i64 n, .int .i64 er]) ∧ RDid w qb rb (fun k => DB qb sv k ∨ B k) s m o w' er false n := by
  have hq : o.kind = 1 ∨ o.kind = 3 ∨ o.kind = 6 ∨ (8 ≤ o.kind ∧ o.kind ≤ 14) := by omega
  have hd : DI w qb rb s m _ := ⟨sv, σ, B, h, rfl⟩
  have hl : m.log.length ≤ 4611686018427387903 := by omega
  rcases nat_or o.a s.atts.length with ha | ⟨x, ex, hx⟩
  · refine (rStatus_no h (inn_no ha)).mono ?_
    rintro e w' ⟨rfl, k⟩
    exact ⟨_, _, rfl, rdid_no h (by decide) hq (fun _ => .inl ha) (by rw [err, if_neg (by omega), if_neg (by omega), if_neg (by omega), if_neg (by omega), if_neg (by omega), if_pos (by omega), if_pos ha]) k⟩
  · rw [ex]
    cases hf : m.free with
    | false =>
      refine (rStatus_cl h hx (iv.wf.at_ x hx).1 hf).mono ?_
      rintro e w' ⟨rfl, k⟩
      exact ⟨_, _, rfl, rdid_no h (by decide) hq (fun _ => .inr hf) (by rw [err, if_neg (by omega), if_neg (by omega), if_neg (by omega), if_neg (by omega), if_neg (by omega), if_pos (by omega), if_neg (by omega), if_neg (by rw [hf]; decide)]) k⟩
    | true =>
      refine (rStatus_ok h hg hx (iv.wf.at_ x hx).1 hf hlog).mono ?_
      rintro e w' ⟨rfl, B', h', x'⟩
      exact ⟨_, _, rfl, _, _, _, .stat hk x ex hx hf, ⟨sv, σ, B', h', rfl⟩, DW.left x'⟩
theorem rFlag_any (h : DW w qb rb sv σ B s m) (iv : Inv s m) (hg : m.fit) (_ : m.cells.length ≤ 65536) (hlog : (m.log.length + 1) * 56 ≤ 140737488355328) {o : Oq} (hk : o.kind = 13) :
    Calls Tryz.prog 78 #[.pointer (some ⟨qb, 0, none⟩), .int .i64 o.a] w fun e w' => ∃ er d, e = .returned (.tuple #[.bool d, .int .i64 er]) ∧ RDid w qb rb (fun k => DB qb sv k ∨ B k) s m o w' er d 0 := by
  have hq : o.kind = 1 ∨ o.kind = 3 ∨ o.kind = 6 ∨ (8 ≤ o.kind ∧ o.kind ≤ 14) := by omega
  have hd : DI w qb rb s m _ := ⟨sv, σ, B, h, rfl⟩
  have hl : m.log.length ≤ 4611686018427387903 := by omega
  rcases nat_or o.a s.atts.length with ha | ⟨x, ex, hx⟩
  · refine (rFlag_no h (inn_no ha)).mono ?_
    rintro e w' ⟨rfl, k⟩
    exact ⟨_, _, rfl, rdid_no h (by decide) hq (by omega) (by rw [err, if_neg (by omega), if_neg (by omega), if_neg (by omega), if_neg (by omega), if_neg (by omega), if_pos (by omega), if_pos ha]) k⟩
  · rw [ex]
    cases hf : m.free with
    | false =>
      refine (rFlag_cl h hx (iv.wf.at_ x hx).2 hf).mono ?_
      rintro e w' ⟨rfl, k⟩
      exact ⟨_, _, rfl, rdid_no h (by decide) hq (by omega) (by rw [err, if_neg (by omega), if_neg (by omega), if_neg (by omega), if_neg (by omega), if_neg (by omega), if_pos (by omega), if_neg (by omega), if_neg (by rw [hf]; decide)]) k⟩
    | true =>
      refine (rFlag_ok h hg hx (iv.wf.at_ x hx).2 hf hlog).mono ?_
      rintro e w' ⟨rfl, B', h', x'⟩
      exact ⟨_, _, rfl, _, _, _, .flag hk x ex hx hf, ⟨sv, σ, B', h', rfl⟩, DW.left x'⟩
theorem rKill_any (h : DW w qb rb sv σ B s m) (iv : Inv s m) (hg : m.fit) (_ : m.cells.length ≤ 65536) (hlog : (m.log.length + 1) * 56 ≤ 140737488355328) {o : Oq} (hk : o.kind = 11) :
    Calls Tryz.prog 75 #[.pointer (some ⟨qb, 0, none⟩), .int .i64 o.a] w fun e w' => ∃ er d, e = .returned (.tuple #[.bool d, .int .i64 er]) ∧ RDid w qb rb (fun k => DB qb sv k ∨ B k) s m o w' er d 0 := by
  have hq : o.kind = 1 ∨ o.kind = 3 ∨ o.kind = 6 ∨ (8 ≤ o.kind ∧ o.kind ≤ 14) := by omega
  have hd : DI w qb rb s m _ := ⟨sv, σ, B, h, rfl⟩
  have hl : m.log.length ≤ 4611686018427387903 := by omega
  by_cases hb : o.a ≤ 0 ∨ (s.atts.length : Int) ≤ o.a
  · refine (rKill_no h (inn_no1 (by omega))).mono ?_
    rintro e w' ⟨rfl, k⟩
    exact ⟨_, _, rfl, rdid_no h (by decide) hq (by omega) (by rw [err, if_neg (by omega), if_neg (by omega), if_neg (by omega), if_neg (by omega), if_neg (by omega), if_neg (by omega), if_pos (by omega), if_pos (by omega)]) k⟩
  · obtain ⟨x, ex⟩ : ∃ x : Nat, o.a = x := ⟨o.a.toNat, by omega⟩
    have h1 : 1 ≤ x := by omega
    have hx : x < s.atts.length := by omega
    rw [ex]
    cases hf : m.free with
    | false =>
      refine (rKill_cl h h1 hx (iv.wf.at_ x hx).1 hf).mono ?_
      rintro e w' ⟨rfl, k⟩
      exact ⟨_, _, rfl, rdid_no h (by decide) hq (by omega) (by rw [err, if_neg (by omega), if_neg (by omega), if_neg (by omega), if_neg (by omega), if_neg (by omega), if_neg (by omega), if_pos (by omega), if_neg (by omega), if_neg (by rw [hf]; decide)]) k⟩
    | true =>
      refine (rKill_ok h hg h1 hx (iv.wf.at_ x hx).1 hf hlog).mono ?_
      rintro e w' ⟨rfl, B', h', x'⟩
      exact ⟨_, _, rfl, _, _, _, .fin 3 (.inl ⟨hk, rfl⟩) x ex h1 hx hf, ⟨sv, σ, B', h', rfl⟩, DW.left x'⟩
theorem rCommit_any (h : DW w qb rb sv σ B s m) (iv : Inv s m) (hg : m.fit) (_ : m.cells.length ≤ 65536) (hlog : (m.log.length + 1) * 56 ≤ 140737488355328) {o : Oq} (hk : o.kind = 12) :
    Calls Tryz.prog 76 #[.pointer (some ⟨qb, 0, none⟩), .int .i64 o.a] w fun e w' => ∃ er d, e = .returned (.tuple #[.bool d, .int .i64 er]) ∧ RDid w qb rb (fun k => DB qb sv k ∨ B k) s m o w' er d 0 := by
  have hq : o.kind = 1 ∨ o.kind = 3 ∨ o.kind = 6 ∨ (8 ≤ o.kind ∧ o.kind ≤ 14) := by omega
  have hd : DI w qb rb s m _ := ⟨sv, σ, B, h, rfl⟩
  have hl : m.log.length ≤ 4611686018427387903 := by omega
  by_cases hb : o.a ≤ 0 ∨ (s.atts.length : Int) ≤ o.a
  · refine (rCommit_no h (inn_no1 (by omega))).mono ?_
    rintro e w' ⟨rfl, k⟩
    exact ⟨_, _, rfl, rdid_no h (by decide) hq (by omega) (by rw [err, if_neg (by omega), if_neg (by omega), if_neg (by omega), if_neg (by omega), if_neg (by omega), if_neg (by omega), if_pos (by omega), if_pos (by omega)]) k⟩
  · obtain ⟨x, ex⟩ : ∃ x : Nat, o.a = x := ⟨o.a.toNat, by omega⟩
    have h1 : 1 ≤ x := by omega
    have hx : x < s.atts.length := by omega
    rw [ex]
    cases hf : m.free with
    | false =>
      refine (rCommit_cl h h1 hx (iv.wf.at_ x hx).1 hf).mono ?_
      rintro e w' ⟨rfl, k⟩
      exact ⟨_, _, rfl, rdid_no h (by decide) hq (by omega) (by rw [err, if_neg (by omega), if_neg (by omega), if_neg (by omega), if_neg (by omega), if_neg (by omega), if_neg (by omega), if_pos (by omega), if_neg (by omega), if_neg (by rw [hf]; decide)]) k⟩
    | true =>
      refine (rCommit_ok h hg h1 hx (iv.wf.at_ x hx).1 hf hlog).mono ?_
      rintro e w' ⟨rfl, B', h', x'⟩
      exact ⟨_, _, rfl, _, _, _, .fin 2 (.inr ⟨hk, rfl⟩) x ex h1 hx hf, ⟨sv, σ, B', h', rfl⟩, DW.left x'⟩
theorem rMark_any (h : DW w qb rb sv σ B s m) (iv : Inv s m) (hg : m.fit) (_ : m.cells.length ≤ 65536) (hlog : (m.log.length + 1) * 56 ≤ 140737488355328) {o : Oq} (hk : o.kind = 14) :
    Calls Tryz.prog 80 #[.pointer (some ⟨qb, 0, none⟩), .int .i64 o.a, .bool o.v.dead] w fun e w' => ∃ er d, e = .returned (.tuple #[.bool d, .int .i64 er]) ∧ RDid w qb rb (fun k => DB qb sv k ∨ B k) s m o w' er d 0 := by
  have hq : o.kind = 1 ∨ o.kind = 3 ∨ o.kind = 6 ∨ (8 ≤ o.kind ∧ o.kind ≤ 14) := by omega
  have hd : DI w qb rb s m _ := ⟨sv, σ, B, h, rfl⟩
  have hl : m.log.length ≤ 4611686018427387903 := by omega
  by_cases hb : o.a ≤ 0 ∨ (s.atts.length : Int) ≤ o.a
  · cases hdd : o.v.dead with
    | true =>
      refine (rMarkT_no h (inn_no1 (by omega))).mono ?_
      rintro e w' ⟨rfl, k⟩
      exact ⟨_, _, rfl, rdid_no h (by decide) hq (by omega) (by rw [err, if_neg (by omega), if_neg (by omega), if_neg (by omega), if_neg (by omega), if_neg (by omega), if_neg (by omega), if_pos (by omega), if_pos (by omega)]) k⟩
    | false =>
      refine (rMarkF_no h (inn_no1 (by omega))).mono ?_
      rintro e w' ⟨rfl, k⟩
      exact ⟨_, _, rfl, rdid_no h (by decide) hq (by omega) (by rw [err, if_neg (by omega), if_neg (by omega), if_neg (by omega), if_neg (by omega), if_neg (by omega), if_neg (by omega), if_pos (by omega), if_pos (by omega)]) k⟩
  · obtain ⟨x, ex⟩ : ∃ x : Nat, o.a = x := ⟨o.a.toNat, by omega⟩
    have h1 : 1 ≤ x := by omega
    have hx : x < s.atts.length := by omega
    rw [ex]
    cases hf : m.free with
    | false =>
      cases hdd : o.v.dead with
      | true =>
        refine (rMarkT_cl h h1 hx (iv.wf.at_ x hx).2 hf).mono ?_
        rintro e w' ⟨rfl, k⟩
        exact ⟨_, _, rfl, rdid_no h (by decide) hq (by omega) (by rw [err, if_neg (by omega), if_neg (by omega), if_neg (by omega), if_neg (by omega), if_neg (by omega), if_neg (by omega), if_pos (by omega), if_neg (by omega), if_neg (by rw [hf]; decide)]) k⟩
      | false =>
        refine (rMarkF_cl h h1 hx (iv.wf.at_ x hx).2 hf).mono ?_
        rintro e w' ⟨rfl, k⟩
        exact ⟨_, _, rfl, rdid_no h (by decide) hq (by omega) (by rw [err, if_neg (by omega), if_neg (by omega), if_neg (by omega), if_neg (by omega), if_neg (by omega), if_neg (by omega), if_pos (by omega), if_neg (by omega), if_neg (by rw [hf]; decide)]) k⟩
    | true =>
      cases hdd : o.v.dead with
      | true =>
        refine (rMarkT_ok h hg h1 hx (iv.wf.at_ x hx).2 hf hlog).mono ?_
        rintro e w' ⟨rfl, B', h', x'⟩
        exact ⟨_, _, rfl, _, _, _, .mark hk x 0 1 ex h1 hx hf (.inl ⟨hdd, rfl, rfl⟩), ⟨sv, σ, B', h', rfl⟩, DW.left x'⟩
      | false =>
        refine (rMarkF_ok h hg h1 hx (iv.wf.at_ x hx).2 hf hlog).mono ?_
        rintro e w' ⟨rfl, B', h', x'⟩
        exact ⟨_, _, rfl, _, _, _, .mark hk x 1 0 ex h1 hx hf (.inr ⟨hdd, rfl, rfl⟩), ⟨sv, σ, B', h', rfl⟩, DW.left x'⟩
theorem rAcquire_any (h : DW w qb rb sv σ B s m) (iv : Inv s m) (hg : m.fit) (_ : m.cells.length ≤ 65536) (hlog : (m.log.length + 1) * 56 ≤ 140737488355328) {o : Oq} (hk : o.kind = 9) :
    Calls Tryz.prog 73 #[.pointer (some ⟨qb, 0, none⟩), .int .i64 o.a, .int .i64 o.b, .int .i64 o.c] w fun e w' => ∃ er d, e = .returned (.tuple #[.bool d, .int .i64 er]) ∧ RDid w qb rb (fun k => DB qb sv k ∨ B k) s m o w' er d 0 := by
  have hq : o.kind = 1 ∨ o.kind = 3 ∨ o.kind = 6 ∨ (8 ≤ o.kind ∧ o.kind ≤ 14) := by omega
  have hd : DI w qb rb s m _ := ⟨sv, σ, B, h, rfl⟩
  have hl : m.log.length ≤ 4611686018427387903 := by omega
  rcases nat_or o.a s.objs.length with ha | ⟨x, ex, hx⟩
  · refine (rAcq_obj h (inn_no ha) o.b o.c).mono ?_
    rintro e w' ⟨rfl, k⟩
    exact ⟨_, _, rfl, rdid_no h (by decide) hq (by omega) (by rw [err, if_neg (by omega), if_neg (by omega), if_neg (by omega), if_neg (by omega), if_pos hk, if_pos ha]) k⟩
  rw [ex]
  rcases nat_or o.c s.locs.length with hc | ⟨z, ez, hz⟩
  · refine (rAcq_loc h hx (x := o.b) rfl (inn_no hc) (.inr rfl)).mono ?_
    rintro e w' ⟨rfl, k⟩
    exact ⟨_, _, rfl, rdid_no h (by decide) hq (by omega) (by rw [err, if_neg (by omega), if_neg (by omega), if_neg (by omega), if_neg (by omega), if_pos hk, if_neg (by omega), if_pos (.inl hc)]) k⟩
  rw [ez]
  rcases nat_or o.b s.locs.length with hb | ⟨y, ey, hy⟩
  · refine (rAcq_loc h hx (inn_no hb) (inn_ok hz) (.inl rfl)).mono ?_
    rintro e w' ⟨rfl, k⟩
    exact ⟨_, _, rfl, rdid_no h (by decide) hq (by omega) (by rw [err, if_neg (by omega), if_neg (by omega), if_neg (by omega), if_neg (by omega), if_pos hk, if_neg (by omega), if_pos (.inr hb)]) k⟩
  rw [ey]
  cases hU : (s.lo z).used with
  | true =>
    refine (rAcq_used h hx hy hz hU).mono ?_
    rintro e w' ⟨rfl, k⟩
    exact ⟨_, _, rfl, rdid_no h (by decide) hq (by omega) (by rw [err, if_neg (by omega), if_neg (by omega), if_neg (by omega), if_neg (by omega), if_pos hk, if_neg (by omega), if_neg (by omega), if_pos (by rw [ez, Int.toNat_natCast]; exact hU)]) k⟩
  | false =>
    cases hC : s.isC m (s.lo z).owner with
    | true =>
      refine (rAcq_done h hg hl iv.wf hx hy hz hU hC).mono ?_
      rintro e w' ⟨rfl, k⟩
      exact ⟨_, _, rfl, rdid_no h (by decide) hq (by omega) (by rw [err, if_neg (by omega), if_neg (by omega), if_neg (by omega), if_neg (by omega), if_pos hk, if_neg (by omega), if_neg (by omega), if_neg (by rw [ez, Int.toNat_natCast, hU]; decide), if_pos (by rw [ez, Int.toNat_natCast]; exact hC)]) k⟩
    | false =>
      cases hf : m.free with
      | false =>
        refine (rAcq_closed h hg hl iv.wf hx hy hz hU hC hf).mono ?_
        rintro e w' ⟨rfl, k⟩
        exact ⟨_, _, rfl, rdid_no h (by decide) hq (by omega) (by rw [err, if_neg (by omega), if_neg (by omega), if_neg (by omega), if_neg (by omega), if_pos hk, if_neg (by omega), if_neg (by omega), if_neg (by rw [ez, Int.toNat_natCast, hU]; decide), if_neg (by rw [ez, Int.toNat_natCast, hC]; decide), if_neg (by rw [hf]; decide)]) k⟩
      | true =>
        refine (rAcq_ok hd hg hl iv.wf hx hy hz hU hC hf hlog).mono ?_
        rintro e w' ⟨rfl, D', h', x'⟩
        exact ⟨_, _, rfl, _, _, D', .acq hk x y z ex ey ez hx hy hz hU hC hf, h', x'⟩
end
end Go.Proofs.YtaikngpgmcpecaaGreat
