import Derived.Test.YtaikngpgmcpecaaGreatMA
import Derived.Test.YtaikngpgmcpecaaGreatGnA
namespace Go.Proofs.YtaikngpgmcpecaaGreat
open Go.RowKit
theorem uVv : Tryz.prog.underlying 22 = some (.slice 37) := by kernel_rfl
theorem iVv : (Tryz.prog.info? 37).map (fun i => (i.zero, i.size, i.bytes)) = some (some (.agg #[.int .i64 0, .int .i64 0, .bool false]), 3, 24) := by kernel_rfl
section
variable {w w' : World} {qb rb : Nat} {sv : Nat → Value} {σ : Nat → Nat} {B D : Nat → Prop} {s : Ws} {m : Mm}
set_option maxHeartbeats 1600000 in
set_option maxRecDepth 1000000 in
theorem rNow_any (h : DW w qb rb sv σ B s m) (hg : m.fit) (hl : m.log.length ≤ 4611686018427387903) (f : Wf s m) {i : Nat} (hi : i < s.objs.length) : Calls Tryz.prog 95 #[.pointer (some ⟨qb, 0, none⟩), .int .i64 (i : Int)] w fun e w' => e = .returned (.int .i64 (s.now m i : Int)) ∧ Keeps (fun _ => False) w w' := by
  have hob := f.ob i hi
  have hm := fun W (K : Keeps (fun _ => False) w W) => rpeek_any (h.ri.new K) hg.fine hob.1 hl
  rw [hob.2.1] at hm
  obtain ⟨k, hk⟩ : ∃ k, k = s.at_ m i := ⟨_, rfl⟩
  have hkl : k < s.locs.length := by rw [hk]; exact hob.2.2
  rw [← hk] at hm
  have his := fun W (K : Keeps (fun _ => False) w W) => ris_any (h.new K) hg (f.lo k hkl).2.2 (f.at_ _ (f.lo k hkl).2.2).1 hl
  have HNOW : Hid (s.now m i = if m.val (s.att (s.lo k).owner).status = 2 then (s.lo k).new else (s.lo k).old) := by
    show _ = _
    unfold Ws.now
    rw [← hk]
    by_cases e : m.val (s.att (s.lo k).owner).status = 2
    · rw [if_pos e, if_pos (isC_iff.2 e)]
    · rw [if_neg e, if_neg (by rw [isC_not.2 e]; decide)]
  obtain ⟨a1, cp1, f1, hx1⟩ := h.l1
  obtain ⟨g1, rfl, _, p0⟩ := hx1 i hi
  obtain ⟨a3, cp3, f3, hx3⟩ := h.l3
  obtain ⟨g3, rfl, _, x0, x1, x2⟩ := hx3 k hkl
  have f0 := h.f0
  have hiI : (i : Int) < (s.objs.length : Int) := by omega
  have hi0 : (0 : Int) ≤ (i : Int) := by omega
  have hkI : (k : Int) < (s.locs.length : Int) := by omega
  have hk0 : (0 : Int) ≤ (k : Int) := by omega
  obtain ⟨n1, hn1⟩ : ∃ x, x = s.objs.length := ⟨_, rfl⟩
  rw [← hn1] at f1 hiI
  obtain ⟨n3, hn3⟩ : ∃ x, x = s.locs.length := ⟨_, rfl⟩
  rw [← hn3] at f3 hkI
  obtain ⟨cc, hcc⟩ : ∃ x, x = s.ob i := ⟨_, rfl⟩
  rw [← hcc] at p0 hm
  obtain ⟨vv, hvv⟩ : ∃ x, x = m.val (s.att (s.lo k).owner).status := ⟨_, rfl⟩
  rw [← hvv] at his HNOW
  obtain ⟨lo, hlo⟩ : ∃ x, x = s.lo k := ⟨_, rfl⟩
  rw [← hlo] at x0 x1 x2 his HNOW
  clear h hi f hob hx1 hx3 hn1 hn3 hcc hvv hlo hkl hk
  obtain ⟨nw, hnw⟩ : ∃ x, x = s.now m i := ⟨_, rfl⟩
  rw [← hnw] at HNOW
  rw [← hnw]
  clear hnw
  go_enter Tryz.func95, Tryz.ntmps95
  refine wp_seq_k (fun KK hKK => ?_)
  have hKH : Hid _ := hKK
  clear hKK
  go_wp2_with fail
  refine hKH.out _ _ ?_
  clear hKH KK
  refine wp_seq_k (fun KK hKK => ?_)
  have hKH : Hid _ := hKK
  clear hKK
  go_region_held3 (fun w' => w'.cell? ⟨qb, 0, none⟩ = some (.pointer (some ⟨rb, 0, none⟩)) ∧ w'.cell? ⟨qb, 1, none⟩ = some (.slice (some ⟨g1, 0, none⟩) n1 cp1) ∧ w'.cell? ⟨g1, i, none⟩ = some (.int .i64 (cc : Int))) (go_keep) ((go_at_call 104; (with_reducible refine (hm _ ((Keeps.refl _ w).drew)).mono ?_); rintro e w4 ⟨rfl, K4⟩; have q0 := K4.cell (p := ⟨qb, 0, none⟩) (v := .pointer (some ⟨rb, 0, none⟩)) (by simpa using f0) id; have q1 := K4.cell (p := ⟨qb, 1, none⟩) (v := .slice (some ⟨g1, 0, none⟩) n1 cp1) (by simpa using f1) id; have q2 := K4.cell (p := ⟨g1, i, none⟩) (v := .int .i64 (cc : Int)) (by simpa using p0) id))
  refine hKH.out _ _ ?_
  clear hKH KK
  have Kw4 : Keeps (fun _ => False) w w4 := ((Keeps.refl (fun _ => False) w).drew).trans K4
  have f3 := Kw4.cell f3 id
  have x0 := Kw4.cell x0 id
  have x1 := Kw4.cell x1 id
  have x2 := Kw4.cell x2 id
  clear q0 q1 q2 hm
  refine wp_seq_k (fun KK hKK => ?_)
  have hKH : Hid _ := hKK
  clear hKK
  go_wp2_with fail
  refine hKH.out _ _ ?_
  clear hKH KK
  obtain ⟨W5, hW5⟩ : ∃ W5, W5 = w4.alloc (.cells #[.int .i64 (lo.owner : Int), .int .i64 (lo.old : Int), .int .i64 (lo.new : Int)] 103) := ⟨_, rfl⟩
  have k5 : Keeps (fun _ => False) w4 W5 := by rw [hW5]; exact (Keeps.refl _ w4).alloc _
  have c0 : W5.cell? ⟨w4.heap.size, 0, none⟩ = some (.int .i64 (lo.owner : Int)) := by rw [hW5]; simp
  have c1 : W5.cell? ⟨w4.heap.size, 1, none⟩ = some (.int .i64 (lo.old : Int)) := by rw [hW5]; simp
  have c2 : W5.cell? ⟨w4.heap.size, 2, none⟩ = some (.int .i64 (lo.new : Int)) := by rw [hW5]; simp
  rw [← hW5]
  have hi5 := his W5 (Kw4.trans k5)
  have K5 := Kw4.trans k5
  clear hW5 his k5 f3 x0 x1 x2 Kw4 K4
  refine wp_seq_k (fun KK hKK => ?_)
  have hKH : Hid _ := hKK
  clear hKK
  go_wp2_with (go_at_call 97; refine hi5.mono ?_; clear hi5; rintro e w6 ⟨rfl, K6⟩; have c1 := K6.cell c1 id; have c2 := K6.cell c2 id)
  refine hKH.out _ _ ?_
  clear hKH KK
  by_cases hv : vv = 2
  · have v1 : (vv == 2) = true := by simpa using hv
    have HN : Hid (nw = lo.new) := by rw [HNOW.out, if_pos hv]; rfl
    clear hv HNOW
    go_wp2_with fail
    go_ret
    refine ⟨?_, K5.trans K6⟩
    rw [HN.out]
    rfl
  · have v1 : (vv == 2) = false := by simpa using hv
    have HN : Hid (nw = lo.old) := by rw [HNOW.out, if_neg hv]; rfl
    clear hv HNOW
    go_wp2_with fail
    go_ret
    refine ⟨?_, K5.trans K6⟩
    rw [HN.out]
    rfl
theorem now_lt (f : Wf s m) {i : Nat} (hi : i < s.objs.length) : s.now m i < s.vals.length := by
  have h1 := (f.ob i hi).2.2
  have h2 := f.lo _ h1
  rw [f.vl]
  unfold Ws.now
  split
  · rw [h2.1]; exact h1
  · exact h2.2.1
set_option maxHeartbeats 1600000 in
set_option maxRecDepth 1000000 in
theorem rCom_any (h : DW w qb rb sv σ B s m) (hg : m.fit) (hl : m.log.length ≤ 4611686018427387903) (f : Wf s m) : Calls Tryz.prog 67 #[.pointer (some ⟨qb, 0, none⟩)] w fun e w' => ∃ v, e = .returned v ∧ w'.ownsRow w.heap.size 37 3 v s.objs.length (fl vc3 (s.com m)) ∧ Keeps (fun _ => False) w w' := by
  obtain ⟨a1, cp1, f1, -⟩ := h.l1
  obtain ⟨a5, cp5, f5, hx5⟩ := h.l5
  have HNO : Hid (∀ W, Keeps (fun _ => False) w W → ∀ i, i < s.objs.length → Calls Tryz.prog 95 #[.pointer (some ⟨qb, 0, none⟩), .int .i64 (i : Int)] W fun e w' => e = .returned (.int .i64 (s.now m i : Int)) ∧ Keeps (fun _ => False) W w') := fun W K i hi => rNow_any (h.new K) hg hl f hi
  have HX : Hid (∀ i, i < s.objs.length → s.now m i < s.vals.length ∧ ∃ g, a5 = some ⟨g, 0, none⟩ ∧ w.cell? ⟨g, s.now m i * 3, none⟩ = some (.int .i64 (s.value m i).num) ∧ w.cell? ⟨g, s.now m i * 3 + 1, none⟩ = some (.int .i64 (s.value m i).next) ∧ w.cell? ⟨g, s.now m i * 3 + 2, none⟩ = some (.bool (s.value m i).dead)) := fun i hi => by
    have hn := now_lt f hi
    obtain ⟨g, e, -, u0, u1, u2, -⟩ := hx5 _ hn
    exact ⟨hn, g, e, u0, u1, u2⟩
  have HNN : Hid (s.objs.length ≤ 80) := f.no
  have HCOM : Hid (s.com m = (List.range s.objs.length).map (s.value m)) := rfl
  generalize s.com m = cm at *
  generalize s.objs.length = n at *
  generalize s.vals.length = n5 at *
  generalize s.value m = vf at *
  generalize s.now m = nf at *
  clear h hx5 hg hl f
  go_enter Tryz.func67, Tryz.ntmps67
  go_wp2_with fail
  go_loopg [3, 4] n (fun g lv iv Wr => ∃ i : Nat, i + g = n ∧ iv = .int .i64 (i : Int) ∧ Wr.ownsRow w.heap.size 37 3 lv i (fl vc3 ((List.range i).map vf)) ∧ Keeps (fun _ => False) w Wr)
  case atStart => exact ⟨0, by omega, rfl, World.ownsRow_nil _ _ _ _, Keeps.refl _ _⟩
  case round =>
    obtain ⟨i, hig, rfl, hO, kr⟩ := hrel
    have f1 := kr.cell f1 id
    have f5 := kr.cell f5 id
    obtain ⟨la, lc, rfl, -⟩ := own_slice hO
    have HO : Hid (wr.ownsRow w.heap.size 37 3 (.slice la i lc) i (fl vc3 ((List.range i).map vf))) := hO
    clear hO
    cases gk with
    | zero =>
      have d1 : decide ((i : Int) < (n : Int)) = false := decide_eq_false (by omega)
      have d2 : decide (i < n) = false := decide_eq_false (by omega)
      have HE : Hid (i = n) := by show _ = _; omega
      go_wp2_with fail
      go_ret
      refine ⟨_, rfl, ?_, kr⟩
      have hO := HO.out
      rw [HE.out] at hO
      rw [HE.out, HCOM.out]
      exact hO
    | succ g =>
      have hi : i < n := by omega
      have d1 : decide ((i : Int) < (n : Int)) = true := decide_eq_true (by omega)
      have d2 : decide (i < n) = true := decide_eq_true hi
      have d3 : IntKind.i64.wrap ((i : Int) + 1) = (i : Int) + 1 := by rw [IntKind.wrap_i64]; have := HNN.out; omega
      have hno := HNO.out wr kr i hi
      obtain ⟨hn5, g5, rfl, u0, u1, u2⟩ := HX.out i hi
      have HVF : Hid (∀ W, Keeps (fun _ => False) wr W → ∃ a' c' W', (Builtin.append_ #[22, 22] 22 #[.slice la i lc, .slice (some ⟨W.heap.size, 0, none⟩) 1 1]).run Tryz.prog (W.alloc (.cells #[.int .i64 (vf i).num, .int .i64 (vf i).next, .bool (vf i).dead] 37)) = .ok (.slice a' (i + 1) c') W' ∧ W'.ownsRow w.heap.size 37 3 (.slice a' (i + 1) c') (i + 1) (fl vc3 ((List.range (i + 1)).map vf)) ∧ Keeps (fun _ => False) w W') := fun W kW => by
        have hO := kW.owns HO.out (fun _ _ e => e)
        obtain ⟨v', W', r1, r2, r3, -⟩ := append_sz uVv iVv rfl (by decide) hO (by have := (kr.trans kW).size; exact this) (by decide) (by have := HNN.out; omega) (vc3 (vf i)) rfl (by intro u hu; simp [vc3] at hu; rcases hu with rfl | rfl | rfl <;> rfl)
        obtain ⟨a', c', rfl, -⟩ := own_slice r2
        have e : fl vc3 ((List.range i).map vf) ++ vc3 (vf i) = fl vc3 ((List.range (i + 1)).map vf) := by
          rw [List.range_succ, List.map_append]
          unfold fl
          rw [List.flatMap_append]
          simp
        rw [e] at r2
        exact ⟨a', c', W', r1, r2, (kr.trans kW).trans' r3 (fun _ _ e => e) (fun j hj e => by have := owns_baseT HO.out j e; omega)⟩
      obtain ⟨nv, hnv⟩ : ∃ x, x = nf i := ⟨_, rfl⟩
      rw [← hnv] at hno hn5 u0 u1 u2
      obtain ⟨vl, hvl⟩ : ∃ x, x = vf i := ⟨_, rfl⟩
      rw [← hvl] at u0 u1 u2 HVF
      have u0 := kr.cell u0 id
      have u1 := kr.cell u1 id
      have u2 := kr.cell u2 id
      have hnI : (nv : Int) < (n5 : Int) := by omega
      have hn0 : (0 : Int) ≤ (nv : Int) := by omega
      clear HNO HX hnv hvl
      go_wp2_with (first | (go_at_call 95; refine hno.mono ?_; clear hno; rintro e w5 ⟨rfl, k5⟩; have f1 := k5.cell f1 id; have f5 := k5.cell f5 id; have u0 := k5.cell u0 id; have u1 := k5.cell u1 id; have u2 := k5.cell u2 id; obtain ⟨a7, c7, W7, hr7, hO7, k7⟩ := HVF.out w5 k5; clear HVF) | (at_builtin; refine wpList_append_tL rfl _ _ _ rfl _ _ _ W7 rfl rfl hr7 ?_; clear hr7))
      go_roundg g
      case measure => omega
      case rel => exact ⟨i + 1, by omega, by go_num, hO7, k7⟩
end
end Go.Proofs.YtaikngpgmcpecaaGreat
namespace Go.Proofs.YtaikngpgmcpecaaGreat
open Go.RowKit
section
variable {w w' w1 : World} {qb rb : Nat} {sv : Nat → Value} {σ : Nat → Nat} {d : Nat → Fd} {B D : Nat → Prop} {s : Ws} {m : Mm}
/-- A list has grown, and is written down: by what stands. -/
theorem DS.grow2 (h : DS w qb sv σ d) {o : Nat} (o1 : 1 ≤ o) (o2 : o ≤ 5) (K1 : Keeps (fun k => (sv o).ownBlock = some k) w w1) {a : Option Addr} {n cap : Nat} {xs : List Value} (ho : w1.ownsRow 0 (d o).ty (d o).sz (.slice a n cap) n xs) (hat : ∀ g, (Value.slice a n cap).ownBlock = some g → (sv o).ownBlock = some g ∨ w.heap.size ≤ g) :
    ∃ σ', DS (w1.setCell ⟨qb, o, none⟩ (.slice a n cap)) qb (uf sv o (.slice a n cap)) σ' (uf d o ⟨(d o).ty, (d o).sz, n, xs⟩) ∧
      LeftP w (w1.setCell ⟨qb, o, none⟩ (.slice a n cap)) (DB qb sv) (DB qb (uf sv o (.slice a n cap))) ∧ ∀ u, w.cell? ⟨qb, 0, none⟩ = some u → (w1.setCell ⟨qb, o, none⟩ (.slice a n cap)).cell? ⟨qb, 0, none⟩ = some u := by
  have K2 := keeps_set w1 qb o (.slice a n cap)
  have hl := h.ltb
  have nq : ¬ (sv o).ownBlock = some qb := fun e => by have := h.ps o qb o1 o2 e; rw [h.pq] at this; omega
  have off : ∀ g, (Value.slice a n cap).ownBlock = some g → ∀ k, k < w.heap.size → σ k ≠ o → k ≠ g := fun g hg k hk hr e => by
    rcases hat g hg with e' | e'
    · exact hr (by rw [e]; exact h.ps o g o1 o2 e')
    · omega
  have gq : ∀ g, (Value.slice a n cap).ownBlock = some g → g ≠ qb := fun g hg e => off g hg qb hl (by rw [h.pq]; omega) e.symm
  refine ⟨fun k => if (Value.slice a n cap).ownBlock = some k then o else σ k, ⟨fun i i1 i2 => ?_, fun i => ?_, fun i i1 i2 => ?_, ?_, fun i k i1 i2 e => ?_⟩, ⟨?_, fun k hk => ?_⟩, fun u hu => ?_⟩
  · by_cases e : i = o
    · subst e; rw [uf_self]; exact World.cell?_setCell_same _ _ _ (K1.cell (h.fs i i1 i2) nq)
    · rw [uf_other e, World.cell?_setCell_other _ _ _ _ (fun q => by injection q with _ q2; exact e q2.symm)]; exact K1.cell (h.fs i i1 i2) nq
  · rw [World.frozen?_setCell]; exact (K1.frozen (p := ⟨qb, i, none⟩) hl nq).trans (h.z i)
  · by_cases e : i = o
    · subst e; rw [uf_self, uf_self]; exact K2.owns ho (fun k e => gq k e)
    · rw [uf_other e, uf_other e]
      exact K2.owns (K1.owns (h.ow i i1 i2) (fun k e1 e2 => by have a := h.ps i k i1 i2 e1; have b := h.ps o k o1 o2 e2; omega)) (fun k e1 e2 => by have a := h.ps i k i1 i2 e1; rw [e2, h.pq] at a; omega)
  · show (if (Value.slice a n cap).ownBlock = some qb then o else σ qb) = 0
    rw [if_neg (fun e => gq qb e rfl)]; exact h.pq
  · show (if (Value.slice a n cap).ownBlock = some k then o else σ k) = i
    by_cases q : i = o
    · subst q; rw [uf_self] at e; exact if_pos e
    · rw [uf_other q] at e
      have hk := h.ps i k i1 i2 e
      rw [if_neg (fun e' => off k e' k (owns_lt' (h.ow i i1 i2) k e) (by omega) rfl)]
      exact hk
  · exact K1.trans' K2 (fun k _ e => .inr ⟨o, o1, o2, e⟩) (fun k _ e => .inl e)
  · rcases hk with e | ⟨i, i1, i2, e⟩
    · exact .inl (.inl e)
    · by_cases q : i = o
      · subst q; rw [uf_self] at e
        exact (hat k e).elim (fun e => .inl (.inr ⟨i, i1, i2, e⟩)) (fun e => .inr e)
      · rw [uf_other q] at e; exact .inl (.inr ⟨i, i1, i2, e⟩)
  · rw [World.cell?_setCell_other _ _ _ _ (fun q => by injection q with _ q2; omega)]; exact K1.cell hu nq
/-- One more in a list. -/
theorem DS.app (h : DS w qb sv σ d) {o : Nat} (o1 : 1 ≤ o) (o2 : o ≤ 5) {t e size n : Nat} {z : Value} {bytes : Nat} (he : (d o).ty = e) (hs : (d o).sz = size) (hn : (d o).n = n) (ht : Tryz.prog.underlying t = some (.slice e)) (hinfo : (Tryz.prog.info? e).map (fun i => (i.zero, i.size, i.bytes)) = some (some z, size, bytes)) (hz : z.cells.size = size) (hs0 : 0 < size) (hb0 : 0 < bytes) (hk : (n + 1) * bytes ≤ 140737488355328) (q : List Value) (hq : q.length = size) (h1 : ∀ u ∈ q, u.oneCell' = true) :
    ∃ a0 c0 a' c' W', sv o = .slice a0 n c0 ∧ (Builtin.append_ #[t, t] t #[.slice a0 n c0, .slice (some ⟨w.heap.size, 0, none⟩) 1 1]).run Tryz.prog (w.alloc (.cells q.toArray e)) = .ok (.slice a' (n + 1) c') W' ∧ W'.cell? ⟨qb, o, none⟩ = some (.slice a0 n c0) ∧ W'.frozen? ⟨qb, o, none⟩ = false ∧
      ∃ σ', DS (W'.setCell ⟨qb, o, none⟩ (.slice a' (n + 1) c')) qb (uf sv o (.slice a' (n + 1) c')) σ' (uf d o ⟨e, size, n + 1, (d o).xs ++ q⟩) ∧ LeftP w (W'.setCell ⟨qb, o, none⟩ (.slice a' (n + 1) c')) (DB qb sv) (DB qb (uf sv o (.slice a' (n + 1) c'))) ∧ ∀ u, w.cell? ⟨qb, 0, none⟩ = some u → (W'.setCell ⟨qb, o, none⟩ (.slice a' (n + 1) c')).cell? ⟨qb, 0, none⟩ = some u := by
  have own := h.ow o o1 o2
  rw [he, hs, hn] at own
  obtain ⟨a0, c0, e0, -⟩ := own_slice own
  obtain ⟨v', W', r1, r2, r3, r4⟩ := append_sz ht hinfo hz hs0 own (Nat.zero_le _) hb0 hk q hq h1
  obtain ⟨a', c', rfl, -⟩ := own_slice r2
  have nq : ¬ (sv o).ownBlock = some qb := fun e => by have := h.ps o qb o1 o2 e; rw [h.pq] at this; omega
  obtain ⟨σ', hd, hl, hf⟩ := h.grow2 o1 o2 r3 (xs := (d o).xs ++ q) (by rw [he, hs]; exact r2) (fun g hg => by
    rcases r4 with e | e
    · exact .inl (by rw [← e]; exact hg)
    · rw [e] at hg
      injection hg with hg
      exact .inr (by omega))
  rw [he, hs] at hd
  refine ⟨a0, c0, a', c', W', e0, by rw [← e0]; exact r1, by rw [← e0]; exact r3.cell (h.fs o o1 o2) nq, (r3.frozen (p := ⟨qb, o, none⟩) h.ltb nq).trans (h.z o), σ', hd, hl, hf⟩
theorem dsw_lay {x y : Nat} {v : Vl} (hv : s.vals.length = s.locs.length) : dsw (s.lay x y v) = uf (uf (uf (dsw s) 3 ⟨103, 3, s.locs.length + 1, fl Go.Proofs.YtaikngpgmcpecaaGreat.l3 s.locs ++ [.int .i64 (x : Int), .int .i64 (y : Int), .int .i64 (s.locs.length : Int)]⟩) 4 ⟨4, 1, s.locs.length + 1, fl lu s.locs ++ [.bool false]⟩) 5 ⟨37, 3, s.locs.length + 1, fl vc3 s.vals ++ vc3 v⟩ := by
  funext o
  unfold uf
  by_cases e5 : o = 5
  · subst e5
    simp [dsw, Ws.lay, fl, hv]
  · rw [if_neg e5]
    by_cases e4 : o = 4
    · subst e4
      simp [dsw, Ws.lay, fl, lu]
    · rw [if_neg e4]
      by_cases e3 : o = 3
      · subst e3
        simp [dsw, Ws.lay, fl, Go.Proofs.YtaikngpgmcpecaaGreat.l3, hv]
      · rw [if_neg e3]
        unfold dsw
        by_cases e1 : o = 1
        · rw [if_pos e1, if_pos e1]; rfl
        · rw [if_neg e1, if_neg e1]
          by_cases e2 : o = 2
          · rw [if_pos e2, if_pos e2]; rfl
          · rw [if_neg e2, if_neg e2, if_neg e3, if_neg e3, if_neg e4, if_neg e4, if_neg e5, if_neg e5]
end
end Go.Proofs.YtaikngpgmcpecaaGreat
namespace Go.Proofs.YtaikngpgmcpecaaGreat
open Go.RowKit
section
variable {w : World} {qb rb : Nat} {B D : Nat → Prop} {s : Ws} {m : Mm}
set_option maxHeartbeats 3200000 in
set_option maxRecDepth 1000000 in
theorem rMake_ok (h : DI w qb rb s m D) (hg : m.fit) (hl : m.log.length ≤ 4611686018427387903) (f : Wf s m) {att : Nat} (ha1 : 1 ≤ att) (ha : att < s.atts.length) {old : Nat} (ho : old < s.locs.length) (hC : s.isC m (s.lo old).owner = true) (hr : s.locs.length < 16384) : Calls Tryz.prog 69 #[.pointer (some ⟨qb, 0, none⟩), .int .i64 (att : Int), .int .i64 (old : Int)] w fun e w' => e = .returned (.tuple #[.int .i64 (s.locs.length : Int), .int .i64 0]) ∧ ∃ D', DI w' qb rb (s.lay att old (s.vl old)) m D' ∧ LeftP w w' D D' := by
  obtain ⟨sv, σ, B, h, rfl⟩ := h
  have hc1 := rmade_any h (att : Int)
  rw [inn_ok1 ha1 ha] at hc1
  have hc2 := rloc_any h (old : Int)
  rw [inn_ok ho] at hc2
  have HC := isC_iff.1 hC
  have his := ris_any h hg (f.lo old ho).2.2 (f.at_ _ (f.lo old ho).2.2).1 hl
  obtain ⟨a3, cp3, f3, hx3⟩ := h.l3
  obtain ⟨g3, rfl, _, x0, x1, x2⟩ := hx3 old ho
  have e3 : sv 3 = .slice (some ⟨g3, 0, none⟩) s.locs.length cp3 := Option.some.inj ((h.ds.fs 3 (by omega) (by omega)).symm.trans f3)
  have hov : old < s.vals.length := by rw [f.vl]; exact ho
  obtain ⟨a5, cp5, f5, hx5⟩ := h.l5
  obtain ⟨g5, rfl, nb5, u0, u1, u2, -⟩ := hx5 old hov
  have e5 : sv 5 = .slice (some ⟨g5, 0, none⟩) s.vals.length cp5 := Option.some.inj ((h.ds.fs 5 (by omega) (by omega)).symm.trans f5)
  rw [f.vl] at e5 f5
  have HV : Hid (s.vals.length = s.locs.length) := f.vl
  have H0 : Hid (DW w qb rb sv σ B s m) := h
  have hoI : (old : Int) < (s.locs.length : Int) := by omega
  have ho0 : (0 : Int) ≤ (old : Int) := by omega
  obtain ⟨vv, hvv⟩ : ∃ x, x = m.val (s.att (s.lo old).owner).status := ⟨_, rfl⟩
  rw [← hvv] at his HC
  have v1 : (vv != 2) = false := by simpa using HC
  obtain ⟨ow, how⟩ : ∃ x, x = (s.lo old).owner := ⟨_, rfl⟩
  rw [← how] at his x0
  obtain ⟨ov, hov2⟩ : ∃ x, x = s.vl old := ⟨_, rfl⟩
  have HOV : Hid (ov = s.vl old ∧ old < s.vals.length) := ⟨hov2, hov⟩
  rw [← hov2] at u0 u1 u2
  rw [← hov2]
  obtain ⟨n3, hn3⟩ : ∃ x, x = s.locs.length := ⟨_, rfl⟩
  have HN3 : Hid (n3 = s.locs.length) := hn3
  rw [← hn3] at f3 hoI hr f5 e3 e5
  rw [← hn3]
  have d1 : decide ((n3 : Int) ≥ 16384) = false := decide_eq_false (by omega)
  have d2 : decide ((16384 : Int) ≤ (n3 : Int)) = false := decide_eq_false (by omega)
  have d3 : decide (16384 ≤ n3) = false := decide_eq_false (by omega)
  have HE3 : Hid (sv 3 = .slice (some ⟨g3, 0, none⟩) n3 cp3) := e3
  have HE5 : Hid (sv 5 = .slice (some ⟨g5, 0, none⟩) n3 cp5) := e5
  have H5 : Hid (w.cell? ⟨qb, 5, none⟩ = some (.slice (some ⟨g5, 0, none⟩) n3 cp5) ∧ w.cell? ⟨g5, old * 3, none⟩ = some (.int .i64 ov.num) ∧ w.cell? ⟨g5, old * 3 + 1, none⟩ = some (.int .i64 ov.next) ∧ w.cell? ⟨g5, old * 3 + 2, none⟩ = some (.bool ov.dead)) := ⟨f5, u0, u1, u2⟩
  clear h ha ha1 ho hC f hvv how hn3 hx3 hx5 HC e3 e5 hov hov2 x1 x2 f5 u0 u1 u2
  go_enter Tryz.func69, Tryz.ntmps69
  refine wp_seq_k (fun KK hKK => ?_)
  have hKH : Hid _ := hKK
  clear hKK
  go_wp2_with fail
  refine hKH.out _ _ ?_
  clear hKH KK
  refine wp_seq_k (fun KK hKK => ?_)
  have hKH : Hid _ := hKK
  clear hKK
  go_wp2_with (go_at_call 96; refine hc1.mono ?_; clear hc1; rintro e w' ⟨rfl, rfl⟩)
  refine hKH.out _ _ ?_
  clear hKH KK
  refine wp_seq_k (fun KK hKK => ?_)
  have hKH : Hid _ := hKK
  clear hKK
  go_wp2_with fail
  refine hKH.out _ _ ?_
  clear hKH KK
  refine wp_seq_k (fun KK hKK => ?_)
  have hKH : Hid _ := hKK
  clear hKK
  go_wp2_with (go_at_call 94; refine hc2.mono ?_; clear hc2; rintro e w' ⟨rfl, rfl⟩)
  refine hKH.out _ _ ?_
  clear hKH KK
  refine wp_seq_k (fun KK hKK => ?_)
  have hKH : Hid _ := hKK
  clear hKK
  go_wp2_with fail
  refine hKH.out _ _ ?_
  clear hKH KK
  refine wp_seq_k (fun KK hKK => ?_)
  have hKH : Hid _ := hKK
  clear hKK
  go_wp2_with (go_at_call 97; refine his.mono ?_; clear his; rintro e w4 ⟨rfl, K4⟩; have f3 := K4.cell f3 id)
  refine hKH.out _ _ ?_
  clear hKH KK
  refine wp_seq_k (fun KK hKK => ?_)
  have hKH : Hid _ := hKK
  clear hKK
  go_wp2_with fail
  refine hKH.out _ _ ?_
  clear hKH KK
  refine wp_seq_k (fun KK hKK => ?_)
  have hKH : Hid _ := hKK
  clear hKK
  go_wp2_with fail
  refine hKH.out _ _ ?_
  clear hKH KK
  refine wp_seq_k (fun KK hKK => ?_)
  have hKH : Hid _ := hKK
  clear hKK
  go_wp2_with fail
  refine hKH.out _ _ ?_
  clear hKH KK
  have h4 := H0.out.new K4
  have hnl : (dsw s 3).n = n3 := HN3.out.symm
  have hx3 : (dsw s 3).xs = fl Go.Proofs.YtaikngpgmcpecaaGreat.l3 s.locs := rfl
  obtain ⟨b0, bc0, a6, c6, W6, e6, r6, q6, z6, σ6, d6, l6, f06⟩ := h4.ds.app (o := 3) (by omega) (by omega) (e := 103) (size := 3) rfl rfl hnl underDL infoDL rfl (by decide) (by decide) (by omega) [.int .i64 (att : Int), .int .i64 (old : Int), .int .i64 (n3 : Int)] rfl (by intro u hu; simp at hu; rcases hu with rfl | rfl | rfl <;> rfl)
  rw [HE3.out] at e6
  injection e6 with e61 _ e63
  subst e61 e63
  rw [hx3] at d6
  obtain ⟨W7, hW7⟩ : ∃ W7, W7 = W6.setCell ⟨qb, 3, none⟩ (.slice a6 (n3 + 1) c6) := ⟨_, rfl⟩
  rw [← hW7] at d6 l6 f06
  have F07 : W7.cell? ⟨qb, 0, none⟩ = some (.pointer (some ⟨rb, 0, none⟩)) := f06 _ (H0.out.new K4).f0
  have HW7 : Hid (W7 = W6.setCell ⟨qb, 3, none⟩ (.slice a6 (n3 + 1) c6)) := hW7
  clear hW7 h4 f06
  refine wp_seq_k (fun KK hKK => ?_)
  have hKH : Hid _ := hKK
  clear hKK
  go_wp2_with (at_builtin; refine wpList_append_tL rfl _ _ _ rfl _ _ _ W6 rfl rfl r6 ?_; clear r6)
  refine hKH.out _ _ ?_
  clear hKH KK
  rw [← HW7.out]
  clear HW7 q6 z6
  have HL6 : Hid (LeftP w4 W7 (DB qb sv) (DB qb (uf sv 3 (.slice a6 (n3 + 1) c6)))) := l6
  clear l6
  obtain ⟨b1, bc1, a8, c8, W8, e8, r8, q8, z8, σ8, d8, l8, f08⟩ := d6.app (o := 4) (by omega) (by omega) (e := 4) (size := 1) (n := n3) (by rw [uf_other (by decide)]; rfl) (by rw [uf_other (by decide)]; rfl) (by rw [uf_other (by decide)]; exact HN3.out.symm) underDB infoDB rfl (by decide) (by decide) (by omega) [.bool false] rfl (by intro u hu; simp at hu; subst hu; rfl)
  have f4 : W7.cell? ⟨qb, 4, none⟩ = some (.slice b1 n3 bc1) := by rw [← e8]; exact d6.fs 4 (by omega) (by omega)
  have hx4 : (uf (dsw s) 3 ⟨103, 3, n3 + 1, fl Go.Proofs.YtaikngpgmcpecaaGreat.l3 s.locs ++ [.int .i64 (att : Int), .int .i64 (old : Int), .int .i64 (n3 : Int)]⟩ 4).xs = fl lu s.locs := by rw [uf_other (by decide)]; rfl
  rw [hx4] at d8
  obtain ⟨W9, hW9⟩ : ∃ W9, W9 = W8.setCell ⟨qb, 4, none⟩ (.slice a8 (n3 + 1) c8) := ⟨_, rfl⟩
  rw [← hW9] at d8 l8 f08
  have F09 : Hid (W9.cell? ⟨qb, 0, none⟩ = some (.pointer (some ⟨rb, 0, none⟩))) := f08 _ F07
  have HW9 : Hid (W9 = W8.setCell ⟨qb, 4, none⟩ (.slice a8 (n3 + 1) c8)) := hW9
  have HL8 : Hid (LeftP w4 W9 (DB qb sv) (DB qb (uf (uf sv 3 (.slice a6 (n3 + 1) c6)) 4 (.slice a8 (n3 + 1) c8)))) := HL6.out.trans l8
  clear hW9 e8 l8 HL6 f08 F07
  have HD6 : Hid (DS W7 qb (uf sv 3 (.slice a6 (n3 + 1) c6)) σ6 (uf (dsw s) 3 ⟨103, 3, n3 + 1, fl Go.Proofs.YtaikngpgmcpecaaGreat.l3 s.locs ++ [.int .i64 (att : Int), .int .i64 (old : Int), .int .i64 (n3 : Int)]⟩)) := d6
  have HD8 : Hid (DS W9 qb (uf (uf sv 3 (.slice a6 (n3 + 1) c6)) 4 (.slice a8 (n3 + 1) c8)) σ8 (uf (uf (dsw s) 3 ⟨103, 3, n3 + 1, fl Go.Proofs.YtaikngpgmcpecaaGreat.l3 s.locs ++ [.int .i64 (att : Int), .int .i64 (old : Int), .int .i64 (n3 : Int)]⟩) 4 ⟨4, 1, n3 + 1, fl lu s.locs ++ [.bool false]⟩)) := d8
  clear d6 d8
  refine wp_seq_k (fun KK hKK => ?_)
  have hKH : Hid _ := hKK
  clear hKK
  go_wp2_with (at_builtin; refine wpList_append_tL rfl _ _ _ rfl _ _ _ W8 rfl rfl r8 ?_; clear r8)
  refine hKH.out _ _ ?_
  clear hKH KK
  rw [← HW9.out]
  clear HW9 q8 z8 f4 HD6
  have hd8 := HD8.out
  have es5 : uf (uf sv 3 (.slice a6 (n3 + 1) c6)) 4 (.slice a8 (n3 + 1) c8) 5 = .slice (some ⟨g5, 0, none⟩) n3 cp5 := by rw [uf_other (by decide), uf_other (by decide)]; exact HE5.out
  have own5 := hd8.ow 5 (by omega) (by omega)
  rw [es5, uf_other (by decide), uf_other (by decide)] at own5
  have own5 : W9.ownsRow 0 37 3 (.slice (some ⟨g5, 0, none⟩) n3 cp5) s.vals.length (fl vc3 s.vals) := own5
  rw [HV.out, ← HN3.out] at own5
  have O5 : Hid (W9.ownsRow 0 37 3 (.slice (some ⟨g5, 0, none⟩) n3 cp5) n3 (fl vc3 s.vals)) := own5
  have f5 : W9.cell? ⟨qb, 5, none⟩ = some (.slice (some ⟨g5, 0, none⟩) n3 cp5) := by rw [← es5]; exact hd8.fs 5 (by omega) (by omega)
  have hu : ∀ j v, (vc3 ov)[j]? = some v → W9.cell? ⟨g5, old * 3 + j, none⟩ = some v := fun j v e => by
    have hj : j < 3 := (List.getElem?_eq_some_iff.1 e).1
    refine (own_clL own5).c _ _ ?_
    rw [fl_get vc3_len s.vals old j hj, getD_get (d := vl0) HOV.out.2]
    have e' := HOV.out.1
    unfold Ws.vl at e'
    rw [← e']
    exact e
  have u0 : W9.cell? ⟨g5, old * 3, none⟩ = some (.int .i64 ov.num) := hu 0 _ rfl
  have u1 : W9.cell? ⟨g5, old * 3 + 1, none⟩ = some (.int .i64 ov.next) := hu 1 _ rfl
  have u2 : W9.cell? ⟨g5, old * 3 + 2, none⟩ = some (.bool ov.dead) := hu 2 _ rfl
  have z5 := hd8.z 5
  have lq9 := hd8.ltb
  have nw2 : ¬ some qb = (Value.slice (some ⟨g5, 0, none⟩) n3 cp5).ownBlock := fun e => by
    have := hd8.ps 5 qb (by omega) (by omega) (by rw [es5]; exact e.symm)
    rw [hd8.pq] at this
    omega
  have HES : Hid (uf (uf sv 3 (.slice a6 (n3 + 1) c6)) 4 (.slice a8 (n3 + 1) c8) 5 = .slice (some ⟨g5, 0, none⟩) n3 cp5) := es5
  obtain ⟨i0, hi0, hz0, hz1, hz2⟩ := info_parts infoV'
  have h63 : n3 + 1 ≤ maxLen := by unfold maxLen; omega
  have hby : (n3 + 1) * 24 ≤ 140737488355328 := by omega
  have n5 := World.new_ne W9 _ f5
  have n6 := World.new_ne W9 _ u0
  have n7 := World.new_ne W9 _ u1
  have n8 := World.new_ne W9 _ u2
  have q1 : ∀ ob, (W9.alloc ob).cell? ⟨qb, 5, none⟩ = some (.slice (some ⟨g5, 0, none⟩) n3 cp5) := fun ob => ((Keeps.refl (fun _ => False) W9).alloc ob).cell f5 id
  have ka : ∀ (ob : Obj), (W9.alloc ob).drew.cell? ⟨qb, 5, none⟩ = some (.slice (some ⟨g5, 0, none⟩) n3 cp5) ∧ (W9.alloc ob).drew.frozen? ⟨qb, 5, none⟩ = false := fun ob =>
    ⟨(((Keeps.refl (fun _ => False) W9).alloc ob).drew).cell f5 (fun e => e), ((((Keeps.refl (fun _ => False) W9).alloc ob).drew).frozen (p := ⟨qb, 5, none⟩) lq9 (fun e => e)).trans z5⟩
  clear hd8 es5 own5 hu H5 HE3 f3 x0
  refine wp_seq_k (fun KK hKK => ?_)
  have hKH : Hid _ := hKK
  clear hKK
  go_region_law ((refine step_append_lies _ (by rfl) _ _ _ (by rfl) 0 37 i0 _ 3 24 uVv hi0 hz0 hz1 hz2 rfl (by omega) (.slice (some ⟨g5, 0, none⟩) n3 cp5) n3 (fl vc3 s.vals) (by rfl) ((O5.out.alloc _).drew) ⟨W9.heap.size, 0, none⟩ 1 1 [.int .i64 ov.num, .int .i64 ov.next, .bool ov.dead] (by rfl) (by rfl) (World.news_of_block (cs := #[.int .i64 ov.num, .int .i64 ov.next, .bool ov.dead]) (t := 37) (fr := (0, 0)) (heap_alloc_new W9 _)) (by simp [Value.oneCell']) (by omega) h63 hby (Nat.zero_le _) (W9.heap.size + 1) (by simp) ?_; intro gg cap1 w10 hown1 hgrow hat hlt1; have r1 := (hgrow.cell_far ⟨qb, 5, none⟩ (by simp; omega) nw2).trans (ka _).1; have r2 := (hgrow.frozen_far ⟨qb, 5, none⟩ (by simp; omega) nw2).trans (ka _).2))
  all_goals
    have K1 : Keeps (fun k => (uf (uf sv 3 (.slice a6 (n3 + 1) c6)) 4 (.slice a8 (n3 + 1) c8) 5).ownBlock = some k) W9 w10 := by
      rw [HES.out]
      exact (((Keeps.refl (fun _ => False) W9).alloc _).drew).trans' ((Keeps.refl (fun k => (Value.slice (some ⟨g5, 0, none⟩) n3 cp5).ownBlock = some k) _).grown hgrow (fun _ _ e => e)) (fun _ _ e => e.elim) (fun _ _ e => e)
    obtain ⟨σ', d10, l10, f10⟩ := HD8.out.grow2 (o := 5) (by omega) (by omega) K1 (a := some ⟨gg, 0, none⟩) (n := n3 + 1) (cap := cap1) (xs := fl vc3 s.vals ++ vc3 ov) (by rw [uf_other (by decide), uf_other (by decide)]; exact hown1) (fun g e => by
      have e : some gg = some g := e
      injection e with e
      subst e
      rw [HES.out]
      exact hat.imp id (fun e => by rw [e]; simp))
    have F10 := f10 _ F09.out
    have HL10 := (LeftP.new (B := DB qb sv) K4).trans (HL8.out.trans l10)
    have hlay : dsw (s.lay att old ov) = _ := dsw_lay HV.out
    rw [← HN3.out] at hlay
    rw [uf_other (by decide), uf_other (by decide)] at d10
    have d10 : DS (w10.setCell ⟨qb, 5, none⟩ (.slice (some ⟨gg, 0, none⟩) (n3 + 1) cap1)) qb (uf (uf (uf sv 3 (.slice a6 (n3 + 1) c6)) 4 (.slice a8 (n3 + 1) c8)) 5 (.slice (some ⟨gg, 0, none⟩) (n3 + 1) cap1)) σ' (dsw (s.lay att old ov)) := by rw [hlay]; exact d10
    have HDI : Hid (∃ D', DI (w10.setCell ⟨qb, 5, none⟩ (.slice (some ⟨gg, 0, none⟩) (n3 + 1) cap1)) qb rb (s.lay att old ov) m D' ∧ LeftP w (w10.setCell ⟨qb, 5, none⟩ (.slice (some ⟨gg, 0, none⟩) (n3 + 1) cap1)) (fun k => DB qb sv k ∨ B k) D') := by
      have h0 := H0.out
      refine ⟨_, ⟨_, σ', B, ⟨F10, d10, h0.ri.keep HL10.keeps (fun i hi e => h0.ap i e hi), fun k hk hb => ?_⟩, rfl⟩, HL10.keeps.mono (fun _ _ e => .inl e), fun k hk => ?_⟩
      · exact (HL10.old k hk).elim (fun e => h0.ap k e hb) (fun e => by have := h0.ri.lt hb; omega)
      · exact hk.elim (fun e => (HL10.old k e).imp .inl id) (fun e => .inl (.inr e))
    have s2 : (w10.setCell ⟨qb, 5, none⟩ (.slice (some ⟨gg, 0, none⟩) (n3 + 1) cap1)).cell? ⟨qb, 5, none⟩ = some (.slice (some ⟨gg, 0, none⟩) (n3 + 1) cap1) := World.cell?_setCell_same _ _ _ r1
    clear hown1 hgrow hat hlt1 ka q1 O5 K1 d10 l10 f10 F10 HL10 hlay
    (try simp only [Exit.then])
    refine hKH.out _ _ ?_
    clear hKH KK
    go_wp2_with fail
    go_ret2
    exact ⟨rfl, HDI.out⟩
end
end Go.Proofs.YtaikngpgmcpecaaGreat
