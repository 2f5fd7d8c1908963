import Derived.Test.YtfbbllokpikbiabCyR
import Derived.ArgAppend
namespace Go.Proofs.Ytfbbllokpikbiab
open Go.RowKit Go.Maps Go.ChangeMaps Go.MapKept Go.WideShapes Go.Deep
attribute [local go_sem] Oper.semAt_some run_store_nf run_store_f
/-- Part of a block that numbers are read from and appended to. -/
structure WV (base : Nat) (W : World) (b off cap : Nat) (L : List Nat) : Prop where
  c : ∀ i, i < L.length → W.cell? ⟨b, off + i, none⟩ = some (.int .i64 ((L.getD i 0 : Nat) : Int))
  s : ∀ j, j < cap → (W.cell? ⟨b, off + j, none⟩).isSome = true ∧ W.frozen? ⟨b, off + j, none⟩ = false
  l : L.length ≤ cap
  b0 : base ≤ b
  b1 : b < W.heap.size
section
variable {base b off cap : Nat} {W : World} {L : List Nat}
theorem WV.keep (h : WV base W b off cap L) {W' : World} {S : Nat → Prop} (k : Keeps S W W') (hS : ¬ S b) : WV base W' b off cap L :=
  ⟨fun i hi => k.cell (h.c i hi) hS, fun j hj => ⟨by
    obtain ⟨u, hu⟩ := Option.isSome_iff_exists.1 (h.s j hj).1
    rw [k.cell hu hS]
    rfl, (k.frozen (p := ⟨b, off + j, none⟩) h.b1 hS).trans (h.s j hj).2⟩, h.l, h.b0, Nat.lt_of_lt_of_le h.b1 k.size⟩
theorem WV.of {g n c : Nat} (h : W.ownsRow base 3 1 (.slice (some ⟨g, 0, none⟩) n c) n (pvs L)) : WV base W g 0 c L := by
  have hlen := h.1
  rw [pvs_len, Nat.mul_one] at hlen
  have hc := (own_clL h).c
  rcases h.2 with ⟨e, _⟩ | ⟨g', cap', cur, e, hbg, hg, h1, -, h3, -⟩
  · cases e
  injection e with e1 _ e2
  injection e1 with e1
  injection e1 with e1 _ _
  subst e1 e2
  refine ⟨fun i hi => ?_, fun j hj => ?_, by omega, hbg, (Array.getElem?_eq_some_iff.1 hg).1⟩
  · rw [Nat.zero_add]
    exact hc i _ (by unfold pvs; rw [List.getElem?_map, List.getElem?_eq_getElem hi, List.getD_eq_getElem?_getD, List.getElem?_eq_getElem hi]; rfl)
  · rw [Nat.zero_add]
    refine ⟨?_, by simp [World.frozen?, hg]⟩
    have : j < cur.size := by omega
    simp [World.cell?, hg, this]
theorem WV.cut {x : Nat} (h : WV base W b off cap (x :: L)) : WV base W b (off + 1) (cap - 1) L := by
  have hl := h.l
  simp at hl
  refine ⟨fun i hi => ?_, fun j hj => ?_, by omega, h.b0, h.b1⟩
  · have := h.c (i + 1) (by simp; omega)
    rw [show off + (i + 1) = off + 1 + i by omega] at this
    exact this
  · have := h.s (j + 1) (by omega)
    rw [show off + (j + 1) = off + 1 + j by omega] at this
    exact this
theorem WV.append (h : WV base W b off cap L) (hL : L.length ≤ 4096) (x : Nat) : ∃ b' off' cap' W', (Builtin.append_ #[23, 23] 23 #[.slice (some ⟨b, off, none⟩) L.length cap, .slice (some ⟨W.heap.size, 0, none⟩) 1 1]).run Try.prog (W.alloc (.cells #[.int .i64 (x : Int)] 3)) = .ok (.slice (some ⟨b', off', none⟩) (L.length + 1) cap') W' ∧ WV base W' b' off' cap' (L ++ [x]) ∧ Keeps (fun i => i = b) W W' := by
  obtain ⟨i0, hi0, hzz⟩ := Option.map_eq_some_iff.1 iI
  simp only [Prod.mk.injEq] at hzz
  obtain ⟨hz0, hz1, hz2⟩ := hzz
  have ka : Keeps (fun _ => False) W (W.alloc (.cells #[.int .i64 (x : Int)] 3)) := (Keeps.refl _ W).alloc _
  have h1 := h.keep ka (fun e => e)
  have hnew : ∀ j u, [Value.int .i64 (x : Int)][j]? = some u → (W.alloc (.cells #[.int .i64 (x : Int)] 3)).cell? ((⟨W.heap.size, 0, none⟩ : Addr).add j) = some u := cell_one_new W _ _
  by_cases hroom : L.length + 1 ≤ cap
  · have hs := h1.s L.length hroom
    have hr := run_append_room_cells (P := Try.prog) (W.alloc (.cells #[.int .i64 (x : Int)] 3)) 23 23 3 i0 uI hi0 b off L.length cap ⟨W.heap.size, 0, none⟩ 1 1 [.int .i64 (x : Int)] (by rw [hz1]; rfl) hnew (fun u hu => by simp at hu; subst hu; rfl) hroom (fun j hj => by
      simp at hj; subst hj; rw [hz1, Nat.mul_one]; exact hs.1) (fun j hj => by
      simp at hj; subst hj; rw [hz1, Nat.mul_one]; exact hs.2)
    rw [hz1, Nat.mul_one] at hr
    have k2 : Keeps (fun i => i = b) (W.alloc (.cells #[.int .i64 (x : Int)] 3)) ((W.alloc (.cells #[.int .i64 (x : Int)] 3)).setCell ⟨b, off + L.length, none⟩ (.int .i64 (x : Int))) := (Keeps.refl (fun i => i = b) _).setCell (p := ⟨b, off + L.length, none⟩) (fun _ => rfl) _
    refine ⟨b, off, cap, _, hr, ?_, ka.trans' k2 (fun _ _ e => e.elim) (fun _ _ e => e)⟩
    show WV base ((W.alloc (.cells #[.int .i64 (x : Int)] 3)).setCell ⟨b, off + L.length, none⟩ (.int .i64 (x : Int))) b off cap (L ++ [x])
    obtain ⟨u0, hu0⟩ := Option.isSome_iff_exists.1 hs.1
    refine ⟨fun i hi => ?_, fun j hj => ?_, by rw [List.length_append]; exact hroom, h.b0, by have := k2.size; exact Nat.lt_of_lt_of_le h1.b1 this⟩
    · rw [List.length_append] at hi
      have hi : i < L.length + 1 := hi
      by_cases e : i = L.length
      · subst e
        rw [World.cell?_setCell_same _ _ _ hu0, List.getD_eq_getElem?_getD, List.getElem?_append_right (Nat.le_refl _), Nat.sub_self]
        rfl
      · rw [World.cell?_setCell_other _ _ _ _ (by intro e2; injection e2 with _ e3; omega), List.getD_eq_getElem?_getD, List.getElem?_append_left (by omega), ← List.getD_eq_getElem?_getD]
        exact h1.c i (by omega)
    · by_cases e : j = L.length
      · subst e
        rw [World.cell?_setCell_same _ _ _ hu0]
        exact ⟨rfl, by simp only [World.frozen?_setCell]; exact hs.2⟩
      · rw [World.cell?_setCell_other _ _ _ _ (by intro e2; injection e2 with _ e3; omega)]
        exact ⟨(h1.s j hj).1, by simp only [World.frozen?_setCell]; exact (h1.s j hj).2⟩
  · obtain ⟨v', w', hr, ho, hg⟩ := run_append_arg_grows (P := Try.prog) (W.alloc (.cells #[.int .i64 (x : Int)] 3)) 23 23 3 i0 _ 1 8 uI hi0 hz0 hz1 hz2 rfl (by decide) ⟨b, off, none⟩ L.length cap (pvs L) (by rw [pvs_len, Nat.mul_one]) (fun j u e => by
      unfold pvs at e
      rw [List.getElem?_map] at e
      obtain ⟨y, hy, rfl⟩ := Option.map_eq_some_iff.1 e
      obtain ⟨hj, hy⟩ := List.getElem?_eq_some_iff.1 hy
      rw [add_atT]
      have := h1.c j hj
      rw [List.getD_eq_getElem?_getD, List.getElem?_eq_getElem hj, hy] at this
      exact this) ⟨W.heap.size, 0, none⟩ 1 1 [.int .i64 (x : Int)] rfl hnew (by omega) (by unfold maxLen; omega) (by omega)
    have k2 : Keeps (fun _ => False) W w' := ka.grown hg (fun i _ e => by cases e)
    have ho2 : w'.ownsRow (W.alloc (.cells #[.int .i64 (x : Int)] 3)).heap.size 3 1 v' (L.length + 1) (pvs (L ++ [x])) := by
      have e : pvs (L ++ [x]) = pvs L ++ [.int .i64 (x : Int)] := by unfold pvs; rw [List.map_append]; rfl
      rw [e]
      exact ho
    obtain ⟨pb, pc, rfl, hp1, hp2⟩ := row_some ho2 (by omega)
    have hw := WV.of ho2
    exact ⟨pb, 0, pc, w', hr, ⟨hw.c, hw.s, hw.l, by have := h.b0; have := h.b1; have := ka.size; omega, hw.b1⟩, k2.mono (fun _ _ e => e.elim)⟩
end
theorem cell_same {W W' : World} {b off : Nat} (h : W'.heap[b]? = W.heap[b]?) : W'.cell? ⟨b, off, none⟩ = W.cell? ⟨b, off, none⟩ := by simp [World.cell?, h]
theorem WV.made (W : World) (x : Nat) : WV W.heap.size (W.alloc (.cells #[.int .i64 (x : Int)] 3)) W.heap.size 0 1 [x] := by
  have h := CL.made W [.int .i64 (x : Int)] 3
  refine ⟨fun i hi => ?_, fun j hj => ?_, Nat.le_refl _, Nat.le_refl _, by simp⟩
  · simp at hi
    subst hi
    exact h.c 0 _ rfl
  · obtain rfl : j = 0 := by omega
    exact ⟨by rw [Nat.zero_add, h.c 0 _ rfl]; rfl, h.z 0 (by simp)⟩
def mir (e : Eg) : Eg := ⟨e.t, e.f, e.k, e.o⟩
theorem take_mir {g : List Eg} {i : Nat} (h : i < g.length) : (g.map mir).take (i + 1) = (g.map mir).take i ++ [mir (g.getD i eg0)] := by
  rw [← List.map_take, ← List.map_take, take_eg h, List.map_append]
  rfl
theorem mem_mir {g : List Eg} {v t : Nat} : t ∈ ldN (g.map mir) v ↔ ∃ e ∈ g, e.t = v ∧ e.f = t := by
  rw [mem_ldN]
  constructor
  · rintro ⟨e, he, q1, q2⟩
    obtain ⟨d, hd, rfl⟩ := List.mem_map.1 he
    exact ⟨d, hd, q1, q2⟩
  · rintro ⟨e, he, q1, q2⟩
    exact ⟨mir e, List.mem_map_of_mem he, q1, q2⟩
theorem FB.rep {W : World} {b c : Nat} {t : Int} (h : W.heap[b]? = some (.cells (List.replicate c (.int .i64 t)).toArray 3 (0, 0))) : FB W b c (fun _ => .int .i64 t) :=
  ⟨fun i hi => by simp [World.cell?, h, hi], fun i hi => by simp [World.frozen?, h]⟩
set_option maxHeartbeats 1500000 in
set_option maxRecDepth 100000 in
theorem distances_any {w : World} {a : Option Addr} {cap n goal : Nat} {g : List Eg} (hl : EL w a (g.map Eg.ed)) (hb : Bln g n) (hn : n ≤ 4096) (hlen : g.length ≤ 4398046511104) (hgo : goal < n) : Calls Try.prog 22 #[.int .i64 (n : Int), .slice a g.length cap, .int .i64 (goal : Int)] w fun e w' => ∃ fb f, e = .returned (.slice (some ⟨fb, 0, none⟩) n n) ∧ w.heap.size ≤ fb ∧ FB w' fb n (nms f) ∧ Far g n goal f ∧ Keeps (fun _ => False) w w' := by
  have HL : Hid (EL w a (g.map Eg.ed)) := hl
  have HB : Hid (Bln g n) := hb
  clear hl hb
  obtain ⟨W1, hW1⟩ : ∃ W1, W1 = w.alloc (.map #[] 0) := ⟨_, rfl⟩
  have k1 : Keeps (fun _ => False) w W1 := by rw [hW1]; exact (Keeps.refl _ w).alloc _
  have HLD1 : Hid (LD W1 w.heap.size w.heap.size [] 0 (fun _ => none)) := by rw [hW1]; exact LD.start w
  have hmm : (Instr.makeMap 50 none).run Try.prog w = .ok (.map (some w.heap.size)) W1 := by rw [hW1]; exact run_makeMap _ _
  clear hW1
  generalize hN : g.length = N at *
  have HN : Hid (g.length = N) := hN
  clear hN
  go_enter Try.func22, Try.ntmps22
  go_wp2_with fail
  go_loopw [17] (fun iv Wr => ∃ (i cnt : Nat) (f : Int → Option Value), iv = .int .i64 (i : Int) ∧ i ≤ N ∧ LD Wr w.heap.size w.heap.size ((g.map mir).take i) cnt f ∧ Keeps (fun _ => False) w Wr) (fun iv _ => N - (intOf iv).toNat)
  case atStart => exact ⟨0, 0, _, rfl, Nat.zero_le _, HLD1.out, k1⟩
  case round =>
    obtain ⟨i, cnt, f, rfl, hi, hld, kr⟩ := hrel
    have HLD : Hid (LD wr w.heap.size w.heap.size ((g.map mir).take i) cnt f) := hld
    have HK : Hid (Keeps (fun _ => False) w wr) := kr
    clear hld k1 HLD1
    by_cases hlt : i < N
    · have j1 : decide ((i : Int) < (N : Int)) = true := decide_eq_true (by omega)
      have j2 : decide (i < N) = true := decide_eq_true hlt
      have j3 : (i : Int) < (N : Int) := by omega
      have j4 : (0 : Int) ≤ (i : Int) := by omega
      have hwi : IntKind.i64.wrap ((i : Int) + 1) = (i : Int) + 1 := by rw [IntKind.wrap_i64]; omega
      have hil : i < g.length := by rw [HN.out]; exact hlt
      obtain ⟨b, off, rfl, hc⟩ := HL.out i (by rw [List.length_map]; exact hil)
      rw [(eg_at hil).1] at hc
      have hR := run_ed (W := wr) (fun j v e => kr.cell (hc j v e) (fun e => e))
      have HTK : Hid ((g.map mir).take (i + 1) = (g.map mir).take i ++ [mir (g.getD i eg0)]) := take_mir hil
      have hcb := HB.out _ (eg_at hil).2
      have HWB : Hid (w.heap.size ≤ wr.heap.size) := kr.size
      have HLE : Hid ((ldN ((g.map mir).take i) (g.getD i eg0).t).length ≤ 4398046511104) := by
        have h1 := ldN_len ((g.map mir).take i) (g.getD i eg0).t
        rw [List.length_take] at h1
        show _ ≤ _
        omega
      clear hc hil
      generalize g.getD i eg0 = c at *
      have hOC := all_oneCell_ed c.ed
      obtain ⟨W4, hW4⟩ : ∃ W4, W4 = wr.alloc (.cells #[.int .i64 0, .int .i64 0, .int .i64 0, .int .i64 0] 30) := ⟨_, rfl⟩
      have k4 : Keeps (fun _ => False) wr W4 := by rw [hW4]; exact (Keeps.refl _ wr).alloc _
      have hU4 : CL W4 wr.heap.size ed0.cells := by rw [hW4]; exact CL.made wr ed0.cells _
      have HW4 : Hid (W4 = wr.alloc (.cells #[.int .i64 0, .int .i64 0, .int .i64 0, .int .i64 0] 30)) := hW4
      clear hW4 kr
      refine wp_seq_k (fun KK hKK => ?_)
      have hKH : Hid _ := hKK
      clear hKK
      go_wp2_with fail
      refine hKH.out _ _ ?_
      clear hKH KK
      go_wp2_with (first | (refine wpList_load_runL rfl 30 _ rfl ⟨b, off + i * 4, none⟩ rfl _ hR ?_; clear hR) | (rw [← HW4.out]; clear HW4; refine wpList_store_cl rfl 30 _ _ rfl wr.heap.size 0 4 _ rfl rfl rfl hU4 (by show 4 ≤ 4; decide) iEd hOC ?_; intro w5 hc5 k5 hsz5; clear hsz5; have hI5 : CL w5 wr.heap.size c.ed.cells := hc5; clear hc5; have K45 : Keeps (fun _ => False) wr w5 := k4.trans' k5 (fun _ _ e => e) (fun i hi e => (by have e : i = wr.heap.size := e; omega)); clear k4 k5 hU4; skip))
      have kd : Keeps (fun _ => False) wr w5.drew := K45.trans ((Keeps.refl _ w5).drew)
      have hLd := HLD.out.keep kd
      obtain ⟨s, e1, ho0, hs⟩ := HLD.out.at c.t
      obtain ⟨sa, sc, rfl, -⟩ := own_slice ho0
      have hoD := kd.owns ho0 (fun _ _ e => e)
      have hk : I64 ((c.t : Nat) : Int) := ⟨by omega, by omega⟩
      have hlook := hLd.m.look underLd (zeroSl _) hk
      rw [e1] at hlook
      have ka := (Keeps.refl (fun _ => False) w5.drew).alloc (.cells #[.int .i64 ((c.f : Nat) : Int)] 3)
      have hlook2 := (hLd.keep ka).m.look underLd (zeroSl _) hk
      rw [e1] at hlook2
      obtain ⟨a1, c1, X1, hr1, ho1, kq, hbq⟩ := append_n hoD (by have := kd.size; have := HWB.out; omega) (by have := HLE.out; omega) c.f
      have nB : (Value.slice sa (ldN ((g.map mir).take i) c.t).length sc).ownBlock ≠ some wr.heap.size := fun e => by have := owns_lt' ho0 _ e; omega
      have nM : (Value.slice sa (ldN ((g.map mir).take i) c.t).length sc).ownBlock ≠ some w.heap.size := row_map ho0 HLD.out.m
      have hS0 : E2 w5.drew wr.heap.size (c.f : Int) (c.t : Int) := (E2.of hI5).keep ((Keeps.refl (fun _ => False) w5).drew) (fun e => e)
      have hSa : E2 (w5.drew.alloc (.cells #[.int .i64 ((c.f : Nat) : Int)] 3)) wr.heap.size (c.f : Int) (c.t : Int) := hS0.keep ka (fun e => e)
      have hS9 : E2 X1 wr.heap.size (c.f : Int) (c.t : Int) := hS0.keep kq nB
      obtain ⟨X2, hup, hmv2, k2⟩ := (hLd.m.keep kq nM).put underLd hk (.slice a1 ((ldN ((g.map mir).take i) c.t).length + 1) c1) (by have := hLd.n; rw [List.length_take] at this; omega)
      have hmb := HLD.out.m.lt
      have hSx : E2 X2 wr.heap.size (c.f : Int) (c.t : Int) := hS9.keep k2 (fun e => by have e : wr.heap.size = w.heap.size := e; omega)
      have HLD2 : Hid (∃ cnt2 f2, LD X2 w.heap.size w.heap.size ((g.map mir).take (i + 1)) cnt2 f2) := by
        show ∃ cnt2 f2, _
        rw [HTK.out]
        exact ⟨_, _, hLd.next (mir c) hs e1 kq ho1 (hbq.imp id (fun e => ⟨_, e, by omega⟩)) hmv2 k2⟩
      have HK2 : Hid (Keeps (fun _ => False) w X2) := ((HK.out.trans kd).trans' kq (U := fun i => w.heap.size ≤ i) (fun _ _ e => e.elim) (fun i hi e => owns_baseT ho0 i e)).trans' k2 (fun i hi e => by have e : w.heap.size ≤ i := e; omega) (fun i hi e => by have e : i = w.heap.size := e; omega)
      clear hLd hoD kq k2 hmv2 ho1 hbq ho0 hs e1 kd ka nB nM hmb hI5 K45
      generalize (ldN ((g.map mir).take i) c.t).length = M at *
      generalize ((c.f : Nat) : Int) = cf at *
      generalize ((c.t : Nat) : Int) = ct at *
      refine wp_region_held_drew (S := fun W => E2 W wr.heap.size cf ct) (by kernel_rfl) hS0 (fun hHeld => ?_)
      refine wpAnyH_take (i := 0) (v := ?_) rfl (by kernel_rfl) (by kernel_rfl) (by kernel_rfl) (fun _ _ _ h => h) (Or.inl ⟨by rfl, ?_⟩) (by assumption) ?_
      rotate_left
      · intro wx hSw; clear hSw; go_simp <;> with_reducible rfl
      (try simp only [List.getElem_toArray]); (try simp only [List.getElem_cons_succ]); (try simp only [List.getElem_cons_zero]); (try simp only [Act.put]); (try simp only [List.setIfInBounds_toArray]); (repeat first | simp only [List.set_cons_succ] | simp only [List.set_cons_zero])
      refine wpAnyH_take (i := 1) (v := ?_) rfl (by kernel_rfl) (by kernel_rfl) (by kernel_rfl) (fun _ _ _ h => h) (Or.inl ⟨by rfl, ?_⟩) (by assumption) ?_
      rotate_left
      · intro wx hSw; clear hSw; go_simp <;> with_reducible rfl
      (try simp only [List.getElem_toArray]); (try simp only [List.getElem_cons_succ]); (try simp only [List.getElem_cons_zero]); (try simp only [Act.put]); (try simp only [List.setIfInBounds_toArray]); (repeat first | simp only [List.set_cons_succ] | simp only [List.set_cons_zero])
      refine wpAnyH_take (i := 2) (v := ?_) rfl (by kernel_rfl) (by kernel_rfl) (by kernel_rfl) (fun _ _ _ h => h) (Or.inl ⟨by rfl, ?_⟩) (by assumption) ?_
      rotate_left
      · intro wx hSw; have q0 := hSw.c0; have q1 := hSw.c1; clear hSw; go_simp <;> with_reducible rfl
      (try simp only [List.getElem_toArray]); (try simp only [List.getElem_cons_succ]); (try simp only [List.getElem_cons_zero]); (try simp only [Act.put]); (try simp only [List.setIfInBounds_toArray]); (repeat first | simp only [List.set_cons_succ] | simp only [List.set_cons_zero])
      refine wpAnyH_take (i := 3) (v := ?_) rfl (by kernel_rfl) (by kernel_rfl) (by kernel_rfl) (fun _ _ _ h => h) (Or.inl ⟨by rfl, ?_⟩) (by assumption) ?_
      rotate_left
      · intro wx hSw; clear hSw; go_simp <;> with_reducible rfl
      (try simp only [List.getElem_toArray]); (try simp only [List.getElem_cons_succ]); (try simp only [List.getElem_cons_zero]); (try simp only [Act.put]); (try simp only [List.setIfInBounds_toArray]); (repeat first | simp only [List.set_cons_succ] | simp only [List.set_cons_zero])
      refine wpAnyH_take (i := 4) (v := ?_) rfl (by kernel_rfl) (by kernel_rfl) (by kernel_rfl) (fun _ _ _ h => h) (Or.inl ⟨by rfl, ?_⟩) (by assumption) ?_
      rotate_left
      · intro wx hSw; clear hSw; go_simp <;> with_reducible rfl
      (try simp only [List.getElem_toArray]); (try simp only [List.getElem_cons_succ]); (try simp only [List.getElem_cons_zero]); (try simp only [Act.put]); (try simp only [List.setIfInBounds_toArray]); (repeat first | simp only [List.set_cons_succ] | simp only [List.set_cons_zero])
      refine wpAnyH_take (i := 5) (v := ?_) rfl (by kernel_rfl) (by kernel_rfl) (by kernel_rfl) (fun _ _ _ h => h) (Or.inl ⟨by rfl, ?_⟩) (by assumption) ?_
      rotate_left
      · intro wx hSw; have q0 := hSw.c0; have q1 := hSw.c1; clear hSw; go_simp <;> with_reducible rfl
      (try simp only [List.getElem_toArray]); (try simp only [List.getElem_cons_succ]); (try simp only [List.getElem_cons_zero]); (try simp only [Act.put]); (try simp only [List.setIfInBounds_toArray]); (repeat first | simp only [List.set_cons_succ] | simp only [List.set_cons_zero])
      refine wpAnyH_take (i := 7) (v := ?_) rfl (by kernel_rfl) (by kernel_rfl) (by kernel_rfl) (fun _ _ _ h => h) (Or.inl ⟨by rfl, ?_⟩) (by assumption) ?_
      rotate_left
      · intro wx hSw; clear hSw; go_simp <;> with_reducible rfl
      (try simp only [List.getElem_toArray]); (try simp only [List.getElem_cons_succ]); (try simp only [List.getElem_cons_zero]); (try simp only [Act.put]); (try simp only [List.setIfInBounds_toArray]); (repeat first | simp only [List.set_cons_succ] | simp only [List.set_cons_zero])
      refine wpAnyH_take (i := 8) (v := ?_) rfl (by kernel_rfl) (by kernel_rfl) (by kernel_rfl) (fun _ _ _ h => h) (Or.inl ⟨by rfl, ?_⟩) (by assumption) ?_
      rotate_left
      · intro wx hSw; have q0 := hSw.c0; have q1 := hSw.c1; clear hSw; go_simp <;> with_reducible rfl
      (try simp only [List.getElem_toArray]); (try simp only [List.getElem_cons_succ]); (try simp only [List.getElem_cons_zero]); (try simp only [Act.put]); (try simp only [List.setIfInBounds_toArray]); (repeat first | simp only [List.set_cons_succ] | simp only [List.set_cons_zero])
      refine wpAnyH_two' 6 9 (by kernel_rfl) rfl rfl (by kernel_rfl) (by kernel_rfl) ?_ ?_
      · refine wp_lookupK 50 _ _ rfl _ _ rfl rfl _ hlook ?_
        refine ⟨hHeld, fun _ => ?_⟩
        (try simp only [List.getElem_toArray]); (try simp only [List.getElem_cons_succ]); (try simp only [List.getElem_cons_zero]); (try simp only [Act.put]); (try simp only [List.setIfInBounds_toArray]); (repeat first | simp only [List.set_cons_succ] | simp only [List.set_cons_zero])
        refine wpAnyH_one 9 (by kernel_rfl) rfl rfl ?_
        refine wp_buildK _ rfl _ rfl ?_
        refine ⟨hSa, fun hS8 => ?_⟩
        (try simp only [List.getElem_toArray]); (try simp only [List.getElem_cons_succ]); (try simp only [List.getElem_cons_zero]); (try simp only [Act.put]); (try simp only [List.setIfInBounds_toArray]); (repeat first | simp only [List.set_cons_succ] | simp only [List.set_cons_zero])
        refine wpAnyH_one 10 (by kernel_rfl) rfl rfl ?_
        refine wp_append_t _ _ 23 rfl _ _ _ X1 rfl rfl hr1 ?_
        refine ⟨hS9, fun _ => ?_⟩
        (try simp only [List.getElem_toArray]); (try simp only [List.getElem_cons_succ]); (try simp only [List.getElem_cons_zero]); (try simp only [Act.put]); (try simp only [List.setIfInBounds_toArray]); (repeat first | simp only [List.set_cons_succ] | simp only [List.set_cons_zero])
        refine wpAnyH_one 11 (by kernel_rfl) rfl rfl ?_
        refine wp_updateK 50 _ _ _ rfl _ _ _ rfl rfl rfl hup ?_
        refine ⟨hSx, fun _ => ?_⟩
        (try simp only [List.getElem_toArray]); (try simp only [List.getElem_cons_succ]); (try simp only [List.getElem_cons_zero]); (try simp only [Act.put]); (try simp only [List.setIfInBounds_toArray]); (repeat first | simp only [List.set_cons_succ] | simp only [List.set_cons_zero])
        refine wpAnyH_done (by kernel_rfl) ?_ _
        clear hSx hS9
        go_wp2_with fail
        go_roundw
        case rel =>
          obtain ⟨cnt2, f2, h2⟩ := HLD2.out
          exact ⟨i + 1, cnt2, f2, by go_num, by omega, h2, HK2.out⟩
        case measure => simp [intOf]; omega
      · refine wp_buildK _ rfl _ rfl ?_
        refine ⟨hSa, fun hS8 => ?_⟩
        (try simp only [List.getElem_toArray]); (try simp only [List.getElem_cons_succ]); (try simp only [List.getElem_cons_zero]); (try simp only [Act.put]); (try simp only [List.setIfInBounds_toArray]); (repeat first | simp only [List.set_cons_succ] | simp only [List.set_cons_zero])
        refine wpAnyH_one 6 (by kernel_rfl) rfl rfl ?_
        refine wp_lookupK 50 _ _ rfl _ _ rfl rfl _ hlook2 ?_
        refine ⟨hS8, fun _ => ?_⟩
        (try simp only [List.getElem_toArray]); (try simp only [List.getElem_cons_succ]); (try simp only [List.getElem_cons_zero]); (try simp only [Act.put]); (try simp only [List.setIfInBounds_toArray]); (repeat first | simp only [List.set_cons_succ] | simp only [List.set_cons_zero])
        refine wpAnyH_one 10 (by kernel_rfl) rfl rfl ?_
        refine wp_append_t _ _ 23 rfl _ _ _ X1 rfl rfl hr1 ?_
        refine ⟨hS9, fun _ => ?_⟩
        (try simp only [List.getElem_toArray]); (try simp only [List.getElem_cons_succ]); (try simp only [List.getElem_cons_zero]); (try simp only [Act.put]); (try simp only [List.setIfInBounds_toArray]); (repeat first | simp only [List.set_cons_succ] | simp only [List.set_cons_zero])
        refine wpAnyH_one 11 (by kernel_rfl) rfl rfl ?_
        refine wp_updateK 50 _ _ _ rfl _ _ _ rfl rfl rfl hup ?_
        refine ⟨hSx, fun _ => ?_⟩
        (try simp only [List.getElem_toArray]); (try simp only [List.getElem_cons_succ]); (try simp only [List.getElem_cons_zero]); (try simp only [Act.put]); (try simp only [List.setIfInBounds_toArray]); (repeat first | simp only [List.set_cons_succ] | simp only [List.set_cons_zero])
        refine wpAnyH_done (by kernel_rfl) ?_ _
        clear hSx hS9
        go_wp2_with fail
        go_roundw
        case rel =>
          obtain ⟨cnt2, f2, h2⟩ := HLD2.out
          exact ⟨i + 1, cnt2, f2, by go_num, by omega, h2, HK2.out⟩
        case measure => simp [intOf]; omega
    · have j1 : decide ((i : Int) < (N : Int)) = false := decide_eq_false (by omega)
      have j2 : decide (i < N) = false := decide_eq_false hlt
      have HRD : Hid (LR wr w.heap.size wr.heap.size w.heap.size (g.map mir)) := by
        have h := HLD.out.read
        rw [List.take_of_length_le (by rw [List.length_map, HN.out]; omega)] at h
        exact h
      clear HLD hi hlt
      have n1 : (0 : Int) ≤ (goal : Int) := by omega
      have n2 : (goal : Int) < (n : Int) := by omega
      obtain ⟨WA, hWA⟩ : ∃ WA, WA = wr.alloc (.cells #[.int .i64 (n : Int)] 3) := ⟨_, rfl⟩
      have kA : Keeps (fun _ => False) wr WA := by rw [hWA]; exact (Keeps.refl _ wr).alloc _
      have zA : WA.heap.size = wr.heap.size + 1 := by rw [hWA]; simp
      have cA : WA.cell? ⟨wr.heap.size, 0, none⟩ = some (.int .i64 (n : Int)) := by rw [hWA]; exact (CL.made wr [.int .i64 (n : Int)] 3).c 0 _ rfl
      have hrep := repeat_any (w := WA) (b := wr.heap.size) 1 (n : Int) n (by omega) hn cA
      obtain ⟨fb, hfb⟩ : ∃ fb, fb = WA.heap.size := ⟨_, rfl⟩
      rw [← hfb] at hrep
      have HKA : Hid (Keeps (fun _ => False) w WA) := kr.trans kA
      have HFB : Hid (wr.heap.size ≤ fb ∧ w.heap.size ≤ fb) := ⟨by omega, by have := kr.size; omega⟩
      have HRA : Hid (LR WA w.heap.size wr.heap.size w.heap.size (g.map mir)) := HRD.out.keep kA (fun _ _ _ e => e)
      have HFA : Hid (fb = WA.heap.size) := hfb
      have HWA : Hid (WA = wr.alloc (.cells #[.int .i64 (n : Int)] 3)) := hWA
      clear kA zA cA hfb hWA HRD kr hmm
      obtain ⟨hi, hhi⟩ : ∃ hi, hi = wr.heap.size := ⟨_, rfl⟩
      rw [← hhi] at HFB HRA
      clear hhi
      go_wp2_with (first | (go_at_call 39; rw [← HWA.out]; refine hrep.mono ?_; clear hrep HWA; rintro e w3 ⟨rfl, hh3, k3⟩; have hF3 : FB w3 fb n (nms (fun _ => n)) := FB.rep hh3; clear hh3) | (refine wpList_store_fi rfl rfl _ _ rfl fb goal rfl 0 rfl hF3 hgo ?_; intro w4 hF4 k4 hz4; clear hz4 hF3))
      have HK3 : Hid (Keeps (fun _ => False) w w3) := HKA.out.trans k3
      have HR3 : Hid (LR w3 w.heap.size hi w.heap.size (g.map mir)) := HRA.out.keep k3 (fun _ _ _ e => e)
      clear k3 HRA HKA HFA
      obtain ⟨W6, hW6⟩ : ∃ W6, W6 = w4.alloc (.cells #[.int .i64 (goal : Int)] 3) := ⟨_, rfl⟩
      have hfb4 : fb < w4.heap.size := World.block_lt_of_cell? _ _ (hF4.c goal hgo)
      have HWV6 : Hid (WV w4.heap.size W6 w4.heap.size 0 1 [goal]) := by rw [hW6]; exact WV.made w4 goal
      have k6 : Keeps (fun _ => False) w4 W6 := by rw [hW6]; exact (Keeps.refl _ w4).alloc _
      have HW6 : Hid (W6 = w4.alloc (.cells #[.int .i64 (goal : Int)] 3)) := hW6
      have HF6 : Hid (FB W6 fb n (nms (upD (fun _ => n) goal 0))) := (hF4.congr (fun p _ => by have := nms_up (d := fun _ => n) (x := goal) (k := 0) p; exact this)).keep k6 (fun e => e)
      have HBF6 : Hid (BF g n goal [goal] 0 (upD (fun _ => n) goal 0)) := BF.start g hgo (by unfold upD; rw [if_pos rfl]) (fun v _ hv => by unfold upD; rw [if_neg hv])
      have HK6 : Hid (Keeps (fun i => i = fb) w4 W6) := k6.mono (fun _ _ e => e.elim)
      have HR4 : Hid (LR w4 w.heap.size hi w.heap.size (g.map mir)) := HR3.out.keep k4 (fun b _ h2 e => by have e : b = fb := e; have := HFB.out.1; omega)
      have HRH : Hid (hi ≤ w4.heap.size ∧ hi ≤ fb ∧ fb < w4.heap.size) := ⟨by have := HFB.out.1; omega, HFB.out.1, hfb4⟩
      have HKF : Hid (∀ W, Keeps (fun i => i = fb) w4 W → Keeps (fun _ => False) w W) := fun W k => (HK3.out.trans' k4 (fun _ _ e => e) (fun i hi e => by have e : i = fb := e; have := HFB.out.2; omega)).trans' k (fun _ _ e => e) (fun i hi e => by have e : i = fb := e; have := HFB.out.2; omega)
      clear hF4 k4 HR3 HK3 k6 hW6
      rw [← HW6.out]
      clear HW6
      generalize hwb : w4.heap.size = wb at *
      have HWB : Hid (w4.heap.size = wb) := hwb
      clear hwb hfb4
      go_loopg [11] n (fun gh wv Wr => ∃ (V : List Nat) (h : Nat) (f : Nat → Nat) (b off cp : Nat), gh + h = n ∧ wv = .slice (some ⟨b, off, none⟩) (V.drop h).length cp ∧ WV wb Wr b off cp (V.drop h) ∧ BF g n goal V h f ∧ FB Wr fb n (nms f) ∧ Keeps (fun i => i = fb) w4 Wr)
      case atStart => exact ⟨[goal], 0, _, wb, 0, 1, by omega, rfl, HWV6.out, HBF6.out, HF6.out, HK6.out⟩
      case round =>
        obtain ⟨V, h, f, b, off, cp, hgh, rfl, hWV, hBF, hF, kr⟩ := hrel
        clear HWV6 HBF6 HF6 HK6
        by_cases hlt : h < V.length
        · have hdl : (V.drop h).length = V.length - h := List.length_drop
          have hx0 : (V.drop h).getD 0 0 = V.getD h 0 := by rw [List.getD_eq_getElem?_getD, List.getElem?_drop, Nat.add_zero, ← List.getD_eq_getElem?_getD]
          have hc0 := hWV.c 0 (by omega)
          rw [hx0, Nat.add_zero] at hc0
          have hxV := getD_memN hlt
          have hxn := hBF.lt _ hxV
          obtain ⟨x, hx⟩ : ∃ x, x = V.getD h 0 := ⟨_, rfl⟩
          rw [← hx] at hc0 hxn
          have hLRr := HR4.out.keep kr (fun b _ h2 e => by have e : b = fb := e; have := HRH.out.2.1; omega)
          obtain ⟨sa, sc, hlook, hPM, hblk⟩ := hLRr.q wr (fun _ _ _ => rfl) x (by omega)
          have HPM : Hid (∀ Wx, Keeps (fun i => i = fb) w4 Wx → PM Wx sa (ldN (g.map mir) x)) := fun Wx kx i hi2 => by
            obtain ⟨b2, off2, e2, hc2⟩ := hPM i hi2
            obtain ⟨q1, q2⟩ := hblk b2 off2 e2
            have h1 := kx.block b2 (by have := HRH.out.1; have := HWB.out; omega) (fun e => by have e : b2 = fb := e; have := HRH.out.2.1; omega)
            have h2 := kr.block b2 (by have := HRH.out.1; have := HWB.out; omega) (fun e => by have e : b2 = fb := e; have := HRH.out.2.1; omega)
            exact ⟨b2, off2, e2, by rw [cell_same (h1.trans h2.symm)]; exact hc2⟩
          have HML : Hid ((ldN (g.map mir) x).length ≤ 4398046511104) := by
            have h1 := ldN_len (g.map mir) x
            rw [List.length_map, HN.out] at h1
            show _ ≤ _
            omega
          obtain ⟨ln, hln⟩ : ∃ ln, ln = (V.drop h).length := ⟨_, rfl⟩
          have d1 : decide ((ln : Int) > 0) = true := decide_eq_true (by omega)
          have d2 : decide ((0 : Int) < (ln : Int)) = true := decide_eq_true (by omega)
          have d3 : decide (0 < ln) = true := decide_eq_true (by omega)
          have d4 : (0 : Int) < (ln : Int) := by omega
          have HS : Hid (∃ b off cp, Value.slice (some ⟨b, off, none⟩) ln cp = Value.slice (some ⟨b, off, none⟩) (V.drop h).length cp) := ⟨b, off, cp, by rw [hln]⟩
          have HST : Hid (WV wb wr b off cp (V.drop h) ∧ BF g n goal V h f ∧ h < V.length ∧ V.getD h 0 = x ∧ FB wr fb n (nms f) ∧ Keeps (fun i => i = fb) w4 wr) := ⟨hWV, hBF, hlt, hx.symm, hF, kr⟩
          have HLN : Hid (ln = (V.drop h).length) := hln
          rw [← hln]
          clear hWV hBF hF kr hPM hblk hLRr hdl hx0 hxV hx hln HS hlt
          generalize hM : (ldN (g.map mir) x).length = M at *
          have HM : Hid ((ldN (g.map mir) x).length = M) := hM
          clear hM
          go_wp2_with fail
          go_loopw [11, 53] (fun wv jv Wx => ∃ (V : List Nat) (f : Nat → Nat) (b off cp j ln : Nat), wv = .slice (some ⟨b, off, none⟩) ln cp ∧ jv = .int .i64 (j : Int) ∧ ln = (V.drop h).length ∧ j ≤ M ∧ WV wb Wx b off cp (V.drop h) ∧ BF g n goal V h f ∧ h < V.length ∧ V.getD h 0 = x ∧ FB Wx fb n (nms f) ∧ (∀ t ∈ (ldN (g.map mir) x).take j, t ∈ V) ∧ Keeps (fun i => i = fb) w4 Wx) (fun _ jv _ => M - (intOf jv).toNat)
          case atStart =>
            obtain ⟨q1, q2, q3, q4, q5, q6⟩ := HST.out
            exact ⟨V, f, b, off, cp, 0, ln, rfl, rfl, HLN.out, Nat.zero_le _, q1, q2, q3, q4, q5, (fun t ht => by simp at ht), q6⟩
          case round =>
            clear HST HLN d1 d2 d3 d4 hc0 hlook
            obtain ⟨V, f, b, off, cp, j, ln, rfl, rfl, hln, hjM, hWV, hBF, hlt, hx, hF, hall, kx⟩ := hrel
            have hdl : (V.drop h).length = V.length - h := List.length_drop
            have hVn := hBF.le
            by_cases hjl : j < M
            · have o1 : decide ((j : Int) < (M : Int)) = true := decide_eq_true (by omega)
              have o2 : decide (j < M) = true := decide_eq_true hjl
              have o3 : (j : Int) < (M : Int) := by omega
              have o4 : (0 : Int) ≤ (j : Int) := by omega
              have hwj : IntKind.i64.wrap ((j : Int) + 1) = (j : Int) + 1 := by rw [IntKind.wrap_i64]; have := HML.out; omega
              have hjT : j < (ldN (g.map mir) x).length := by rw [HM.out]; exact hjl
              obtain ⟨b2, off2, rfl, hcy⟩ := HPM.out wr kx j hjT
              have hTK := take_nextN hjT
              have hyT := getD_memN hjT
              obtain ⟨y, hy⟩ : ∃ y, y = (ldN (g.map mir) x).getD j 0 := ⟨_, rfl⟩
              rw [← hy] at hcy hTK hyT
              clear hy
              obtain ⟨e, he, q1, q2⟩ := mem_mir.1 hyT
              have hyn : y < n := by rw [← q2]; exact (HB.out e he).1
              have hcf : wr.cell? ⟨fb, y, none⟩ = some (.int .i64 (f y : Int)) := hF.c y hyn
              have p1 : (0 : Int) ≤ (y : Int) := by omega
              have p2 : (y : Int) < (n : Int) := by omega
              have HKX : Hid (Keeps (fun i => i = fb) w4 wr) := kx
              by_cases hfy : f y = n
              · have t1 : ((f y : Int) == (n : Int)) = true := by simp [hfy]
                have t2 : (f y == n) = true := by simp [hfy]
                have hc0 := hWV.c 0 (by omega)
                have hx0 : (V.drop h).getD 0 0 = V.getD h 0 := by rw [List.getD_eq_getElem?_getD, List.getElem?_drop, Nat.add_zero, ← List.getD_eq_getElem?_getD]
                rw [hx0, hx, Nat.add_zero] at hc0
                have hxV := getD_memN hlt
                rw [hx] at hxV
                have hxn := hBF.lt _ hxV
                have hcx : wr.cell? ⟨fb, x, none⟩ = some (.int .i64 (f x : Int)) := hF.c x hxn
                have hfx := (hBF.pt _ hxV).2
                obtain ⟨hB2, hB3⟩ := hBF.add hlt he (q1.trans hx.symm) (by rw [q2]; exact hyn) (by rw [q2]; exact hfy)
                rw [q2, hx] at hB2
                have HB2 : Hid (BF g n goal (V ++ [y]) h (upD f y (f x + 1))) := hB2
                have hdr : (V ++ [y]).drop h = V.drop h ++ [y] := List.drop_append_of_le_length (by omega)
                have HAPP : Hid (∀ w5, Keeps (fun i => i = fb) wr w5 → ∃ b' off' cp' W', (Builtin.append_ #[23, 23] 23 #[.slice (some ⟨b, off, none⟩) ln cp, .slice (some ⟨w5.heap.size, 0, none⟩) 1 1]).run Try.prog (w5.alloc (.cells #[.int .i64 (y : Int)] 3)) = .ok (.slice (some ⟨b', off', none⟩) (ln + 1) cp') W' ∧ WV wb W' b' off' cp' ((V ++ [y]).drop h) ∧ Keeps (fun i => i = b) w5 W') := fun w5 k5 => by
                  have hb := hWV.b0
                  have h5 := hWV.keep k5 (fun e => by have e : b = fb := e; have := HRH.out.2.2; omega)
                  rw [hdr, hln]
                  exact h5.append (by omega) y
                have HBG : Hid (wb ≤ b) := hWV.b0
                have HLN2 : Hid (ln + 1 = ((V ++ [y]).drop h).length) := by rw [hdr, List.length_append, ← hln]; rfl
                have HX2 : Hid (h < (V ++ [y]).length ∧ (V ++ [y]).getD h 0 = x) := ⟨by rw [List.length_append]; omega, by rw [List.getD_eq_getElem?_getD, List.getElem?_append_left hlt, ← List.getD_eq_getElem?_getD]; exact hx⟩
                have HAL : Hid (∀ t ∈ (ldN (g.map mir) x).take (j + 1), t ∈ V ++ [y]) := fun t ht => by
                  rw [hTK] at ht
                  rcases List.mem_append.1 ht with ht | ht
                  · exact List.mem_append_left _ (hall t ht)
                  · exact List.mem_append_right _ ht
                have r1 : (0 : Int) ≤ (x : Int) := by omega
                have r2 : (x : Int) < (n : Int) := by omega
                have r3 : (0 : Int) < (ln : Int) := by omega
                have hwf : IntKind.i64.wrap ((f x : Int) + 1) = (f x : Int) + 1 := by rw [IntKind.wrap_i64]; omega
                clear hB2 hdr hWV hBF hall hTK hyT he q1 q2 hx0 hxV hdl hx hVn hlt hB3 hln
                go_wp2_with (first | (refine wpList_store_fi rfl rfl _ _ rfl fb y rfl ((f x : Int) + 1) rfl hF hyn ?_; intro w5 hF5 k5 hz5; clear hz5 hF; obtain ⟨b', off', cp', W3, hr3, hWV3, k3⟩ := HAPP.out w5 k5; have HW3 : Hid (WV wb W3 b' off' cp' ((V ++ [y]).drop h)) := hWV3; clear hWV3 HAPP) | (at_builtin; refine wpList_append_tL rfl _ _ _ rfl _ _ _ W3 rfl rfl hr3 ?_; clear hr3))
                go_roundw
                case rel =>
                  have hF3 : FB W3 fb n (nms (upD f y (f x + 1))) := (hF5.congr (fun p _ => by have := nms_up (d := f) (x := y) (k := f x + 1) p; rw [← this]; rfl)).keep k3 (fun e => by have e : fb = b := e; have := HBG.out; have := HRH.out.2.2; omega)
                  exact ⟨V ++ [y], _, b', off', cp', j + 1, ln + 1, rfl, by go_num, HLN2.out, by omega, HW3.out, HB2.out, HX2.out.1, HX2.out.2, hF3, HAL.out, (HKX.out.trans' k5 (fun _ _ e => e) (fun _ _ e => e)).trans' k3 (fun _ _ e => e) (fun i hi e => by have e : i = b := e; have := HBG.out; have := HWB.out; omega)⟩
                case measure => simp [intOf]; omega
              · have t1 : ((f y : Int) == (n : Int)) = false := by rw [beq_eq_false_iff_ne]; omega
                have t2 : (f y == n) = false := by rw [beq_eq_false_iff_ne]; exact hfy
                have hyV : y ∈ V := Classical.byContradiction fun c => hfy (hBF.un y hyn c)
                have HAL : Hid (∀ t ∈ (ldN (g.map mir) x).take (j + 1), t ∈ V) := fun t ht => by
                  rw [hTK] at ht
                  rcases List.mem_append.1 ht with ht | ht
                  · exact hall t ht
                  · simp at ht; subst ht; exact hyV
                have HST : Hid (WV wb wr b off cp (V.drop h) ∧ BF g n goal V h f ∧ h < V.length ∧ V.getD h 0 = x ∧ FB wr fb n (nms f) ∧ ln = (V.drop h).length) := ⟨hWV, hBF, hlt, hx, hF, hln⟩
                clear hWV hBF hall hTK hyT he q1 q2 hdl hx hVn hlt hF hyV hln
                go_wp2_with fail
                go_roundw
                case rel =>
                  obtain ⟨s1, s2, s3, s4, s5, s6⟩ := HST.out
                  exact ⟨V, f, b, off, cp, j + 1, ln, rfl, by go_num, s6, by omega, s1, s2, s3, s4, s5, HAL.out, HKX.out⟩
                case measure => simp [intOf]; omega
            · have o1 : decide ((j : Int) < (M : Int)) = false := decide_eq_false (by omega)
              have o2 : decide (j < M) = false := decide_eq_false hjl
              have hBS := hBF.shift hlt (fun e he q => hall e.f (by rw [List.take_of_length_le (by rw [HM.out]; omega)]; exact mem_mir.2 ⟨e, he, q.trans hx, rfl⟩))
              have hdc : V.drop h = x :: V.drop (h + 1) := by
                rw [List.drop_eq_getElem_cons hlt]
                rw [List.getD_eq_getElem?_getD, List.getElem?_eq_getElem hlt] at hx
                have hx : V[h] = x := hx
                rw [hx]
              have hcp := hWV.l
              have HST : Hid (WV wb wr b (off + 1) (cp - 1) (V.drop (h + 1)) ∧ BF g n goal V (h + 1) f ∧ FB wr fb n (nms f) ∧ Keeps (fun i => i = fb) w4 wr) := ⟨by rw [hdc] at hWV; exact hWV.cut, hBS, hF, kx⟩
              have HLN2 : Hid (ln - 1 = (V.drop (h + 1)).length ∧ h + 1 ≤ n) := ⟨by rw [hln, hdc]; rfl, by omega⟩
              have r1 : (1 : Int) ≤ (ln : Int) := by omega
              have r2 : (ln : Int) ≤ (cp : Int) := by omega
              have r3 : 1 ≤ ln := by omega
              have r4 : ln ≤ cp := by omega
              have r5 : (1 : Int) ≤ (cp : Int) := by omega
              have HWE : Hid (cp = 1 → WV wb wr b off 0 (V.drop (h + 1)) ∧ ln = 1) := fun q => by
                have h1 : (V.drop (h + 1)).length = 0 := by
                  have := HLN2.out.1
                  omega
                have e : V.drop (h + 1) = [] := List.eq_nil_of_length_eq_zero h1
                rw [e]
                exact ⟨⟨fun i hi2 => absurd hi2 (Nat.not_lt_zero i), fun j hj => absurd hj (Nat.not_lt_zero j), Nat.le_refl _, hWV.b0, hWV.b1⟩, by omega⟩
              clear hBS hWV hBF hF kx hall hdc hdl hx hVn hlt hln hcp
              by_cases hc1 : cp = 1
              · have hl1 := (HWE.out hc1).2
                subst hc1 hl1
                go_wp2_with fail
                go_roundg (gk - 1)
                case measure => have := HLN2.out.2; omega
                case rel =>
                  obtain ⟨s1, s2, s3, s4⟩ := HST.out
                  exact ⟨V, h + 1, f, b, off, 0, by have := HLN2.out.2; omega, by rw [← HLN2.out.1], (HWE.out (by trivial)).1, s2, s3, s4⟩
              · have hc2 : (cp - 1 == 0) = false := by rw [beq_eq_false_iff_ne]; omega
                have hc3 : ¬ cp - 1 = 0 := by omega
                go_wp2_with fail
                go_roundg (gk - 1)
                case measure => have := HLN2.out.2; omega
                case rel =>
                  obtain ⟨s1, s2, s3, s4⟩ := HST.out
                  exact ⟨V, h + 1, f, b, off + 1, cp - 1, by have := HLN2.out.2; omega, by rw [← HLN2.out.1], s1, s2, s3, s4⟩
        · have hdl : (V.drop h).length = 0 := by rw [List.length_drop]; omega
          have HFA : Hid (Far g n goal f) := hBF.done (by omega)
          rw [hdl]
          have HKW := HKF.out wr kr
          go_wp2_with fail
          go_ret
          exact ⟨fb, f, rfl, HFB.out.2, hF, HFA.out, HKW⟩
end Go.Proofs.Ytfbbllokpikbiab
