import Derived.Test.YtmnmphkkcabkiaaG14
import Derived.Deep.OwnRows
namespace Go.Proofs.Ytmnmphkkcabkiaa
open Go.RowKit
attribute [local go_sem] Oper.semAt_some run_store_nf run_store_f
theorem bInfo : (Try.prog.info? 4).map (fun i => (i.zero, i.size, i.bytes)) = some (some (.bool false), 1, 1) := by kernel_rfl
theorem iVl : (Try.prog.info? 27).map (·.size) = some 3 := by kernel_rfl
theorem run_vlAt {W : World} {b o : Nat} {v : V3} (hc : ∀ j u, v.cells[j]? = some u → W.cell? ⟨b, o + j, none⟩ = some u) : (loadVar 27 ⟨b, o, none⟩).run Try.prog W = .ok (.agg v.cells.toArray) W :=
  run_loadVar_mid W b o 27 v.cells _ hc Try.underlying27 rfl (by rw [iVl]; rfl)
theorem one_v3a (v : V3) : v.cells.toArray.all (·.oneCell') = true := all_oneCell_toArray (by simp [V3.cells, Value.oneCell'])
theorem VB.marks (w : World) (n : Nat) : VB (w.alloc (.cells (madeCells #[.bool false] n) 4)) w.heap.size n (fun _ => .bool false) := by
  have e : madeCells #[.bool false] n = (List.replicate n (.bool false : Value)).toArray := by
    apply Array.ext'
    simp [madeCells]
    rw [List.eq_replicate_iff]
    refine ⟨by simp, fun b hb => ?_⟩
    obtain ⟨x, _, rfl⟩ := List.mem_map.1 hb
    rw [Nat.mod_one]; rfl
  rw [e]
  exact VB.made w n (.bool false) 4
theorem VB.keepZ {w w' : World} {b n : Nat} {f : Nat → Value} (h : VB w b n f) {S : Nat → Prop} (k : Keeps S w w') (hS : ¬ S b) : VB w' b n f := by
  by_cases hn : 0 < n
  · exact h.keep hn k hS
  · exact ⟨fun o ho => by omega, fun o ho => by omega⟩
def SD (wb k : Nat) (x : Wo) (W : World) : Prop := ∀ j v, x.cells[j]? = some v → W.cell? ⟨wb, k * 4 + j, none⟩ = some v
set_option maxHeartbeats 1000000 in
set_option maxRecDepth 100000 in
theorem rat_no {w : World} {a fa : Option Addr} {cap n fc i : Nat} {s : Int} {l : List Rw} (hl : RSL w a l) (hlen : l.length ≤ 980000000000) (hf : fstP l 0 (f0 6) = some i) : Calls Try.prog 16 #[.slice fa n fc, .slice a l.length cap, .int .i64 s] w fun e w' => e = .returned (.tuple #[.slice none 0 0, .int .i64 150]) ∧ Keeps (fun _ => False) w w' := by
  have hck := rtxs_no (cap := cap) hl hlen hf
  clear hl hf
  generalize l.length = N at *
  go_enter Try.func16, Try.ntmps16
  go_wp2_with (go_at_call 19; refine hck.mono ?_; clear hck; rintro e w1 ⟨rfl, k1⟩)
  go_ret2
  exact ⟨rfl, k1⟩
set_option maxHeartbeats 1000000 in
set_option maxRecDepth 100000 in
theorem rat_when {w : World} {a fa : Option Addr} {cap n fc : Nat} {s : Int} {l : List Rw} (hl : RSL w a l) (hlen : l.length ≤ 980000000000) (hf : fstP l 0 (f0 6) = none) (hs : s < -1 ∨ (l.length : Int) ≤ s) : Calls Try.prog 16 #[.slice fa n fc, .slice a l.length cap, .int .i64 s] w fun e w' => e = .returned (.tuple #[.slice none 0 0, .int .i64 151]) ∧ Keeps (fun _ => False) w w' := by
  have hck := rtxs_ok (cap := cap) hl hlen hf
  clear hl hf
  generalize l.length = N at *
  by_cases h1 : s < -1
  · have m1 : decide (s < -1) = true := decide_eq_true h1
    go_enter Try.func16, Try.ntmps16
    go_wp2_with (go_at_call 19; refine hck.mono ?_; clear hck; rintro e w1 ⟨_, lv, _, _, _, rfl, -, -, k1⟩)
    go_ret2
    exact ⟨rfl, k1⟩
  · have m1 : decide (s < -1) = false := decide_eq_false h1
    have m2 : decide ((N : Int) ≤ s) = true := decide_eq_true (by omega)
    have m3 : (N : Int) ≤ s := by omega
    go_enter Try.func16, Try.ntmps16
    go_wp2_with (go_at_call 19; refine hck.mono ?_; clear hck; rintro e w1 ⟨_, lv, _, _, _, rfl, -, -, k1⟩)
    go_ret2
    exact ⟨rfl, k1⟩
set_option maxHeartbeats 1000000 in
set_option maxRecDepth 100000 in
theorem rat_ok {w : World} {a fa : Option Addr} {cap n fc : Nat} {s : Int} {l : List Rw} {F0 : Nat → V3} (hl : RSL w a l) (hlen : l.length ≤ 980000000000) (hf : fstP l 0 (f0 6) = none) (hs : -1 ≤ s ∧ s < (l.length : Int)) (hv : VS w fa n F0) (hz : fa = none → fc = 0) (hn : n * 24 ≤ 140737488355328) :
    Calls Try.prog 16 #[.slice fa n fc, .slice a l.length cap, .int .i64 s] w fun e w' => ∃ v, e = .returned (.tuple #[v, .int .i64 0]) ∧ w'.ownsRow w.heap.size 27 3 v n (gvl (fwK l F0 (s + 1).toNat) n) ∧ Keeps (fun _ => False) w w' := by
  have hck := rtxs_ok (cap := cap) hl hlen hf
  have HCP : Hid (∀ W, Keeps (fun _ => False) w W → ∃ a' c' W', (Builtin.append_ #[22, 22] 22 #[.slice (some ⟨W.heap.size, 0, none⟩) 0 0, .slice fa n fc]).run Try.prog (W.alloc (.cells #[] 27)) = .ok (.slice a' n c') W' ∧ W'.ownsRow W.heap.size 27 3 (.slice a' n c') n (gvl F0 n) ∧ Keeps (fun _ => False) W W') := fun W k => by
    obtain ⟨v', W', h1, h2, h3⟩ := copy_v fc (hv.keep k) hz hn
    obtain ⟨a', c', rfl, -⟩ := own_slice h2
    exact ⟨a', c', W', h1, h2, h3⟩
  have hmk : ∀ W : World, (Instr.makeSlice 75 (.int .i64 (n : Int)) (.int .i64 (n : Int))).run Try.prog W = .ok (.slice (some ⟨W.heap.size, 0, none⟩) n n) (W.alloc (.cells (madeCells #[.bool false] n) 4)) := fun W => run_make_row' (P := Try.prog) 75 4 (.bool false) 1 Try.underlying75 bInfo rfl .i64 .i64 n (by omega) (by omega) W
  have m1 : decide (s < -1) = false := decide_eq_false (by omega)
  have m2 : decide ((l.length : Int) ≤ s) = false := decide_eq_false (by omega)
  have HWR : Hid (∀ k, k < l.length → (l.getD k rw0).fin = 1 → 1 ≤ (l.getD k rw0).no ∧ ((l.getD k rw0).no - 1).toNat < (txD l).length ∧ (∀ x ∈ ((txD l).getD ((l.getD k rw0).no - 1).toNat tv0).wrs, 0 ≤ x.object) ∧ fwK l F0 (k + 1) = layF ((txD l).getD ((l.getD k rw0).no - 1).toNat tv0).wrs (fwK l F0 k)) := fun k hk h1 => by
    obtain ⟨e1, e2⟩ := txD_wrs hf hk h1
    have hof := fin_of (row_ok hf hk).2 (by omega)
    have hno := (txK_ro hf hk).o hof
    have h3 := (txK_of hf hk hof).2
    have hm1 := txK_mono l k 1
    refine ⟨hno.1, e2, ?_, ?_⟩
    · rw [e1]
      exact wrs_pos hf (k + 1) (by omega) _ (by omega)
    · rw [e1]
      show (if (l.getD k rw0).fin = 1 then _ else _) = _
      rw [if_pos h1]
  have HWN : Hid (∀ k, (l.getD k rw0).fin ≠ 1 → fwK l F0 (k + 1) = fwK l F0 k) := fun k h1 => by
    show (if (l.getD k rw0).fin = 1 then _ else _) = _
    rw [if_neg h1]
  have HTL : Hid ((txD l).length ≤ l.length) := by
    show _ ≤ _
    have : (txD l).length = (txK l l.length).1.length := rlK_len _ _ _
    have := txK_le l l.length
    omega
  have HF0 : Hid (fwK l F0 0 = F0) := rfl
  generalize hFF : fwK l F0 (s + 1).toNat = FF
  have HFF : Hid (fwK l F0 (s + 1).toNat = FF) := hFF
  have HL : Hid (∀ k, k < l.length → ∃ b off, a = some ⟨b, off, none⟩ ∧ ∀ j v, (l.getD k rw0).cells[j]? = some v → w.cell? ⟨b, off + k * 26 + j, none⟩ = some v) := fun k hk => hl k hk
  clear hl hf hv hz hFF
  generalize txD l = ts at *
  generalize hN : l.length = N at *
  go_enter Try.func16, Try.ntmps16
  go_wp2_with (first | (go_at_call 19; refine hck.mono ?_; clear hck; rintro e w1 ⟨bT, lv, sv, wv, ρ, rfl, -, hT, k1⟩; obtain ⟨al, cl, rfl⟩ := hT.sl; obtain ⟨ao, co, w2, hr2, ho2, k2⟩ := HCP.out w1 k1; clear HCP; obtain ⟨W3, hW3⟩ : ∃ W3, W3 = w2.alloc (.cells (madeCells #[.bool false] n) 4) := ⟨_, rfl⟩; have HW3 : Hid (W3 = w2.alloc (.cells (madeCells #[.bool false] n) 4)) := hW3; clear hW3) | (at_builtin; refine wpList_append_run rfl _ _ _ rfl _ _ _ w2 rfl rfl hr2 ?_; clear hr2))
  rw [← HW3.out]
  have k3 : Keeps (fun _ => False) w2 W3 := by rw [HW3.out]; exact (Keeps.refl _ w2).alloc _
  have hM3 : VB W3 w2.heap.size n (fun _ => .bool false) := by rw [HW3.out]; exact VB.marks w2 n
  have ho3 := k3.owns ho2 (fun _ _ e => e)
  have hlo : ∀ b, (Value.slice ao n co).ownBlock = some b → w1.heap.size ≤ b ∧ b < w2.heap.size := fun b e => ⟨owns_baseT ho2 b e, owns_lt' ho2 b e⟩
  have kw3 : Keeps (fun _ => False) w W3 := (k1.trans k2).trans k3
  have k13 : Keeps (fun b => w1.heap.size ≤ b) w1 W3 := (k2.trans k3).mono (fun _ _ e => e.elim)
  have z1 := k1.size
  have z2 := k2.size
  clear HW3 hmk ho2 k2 k3
  have HT : Hid (TL bT w1 (.slice al ts.length cl) ts sv wv ρ N) := hT
  clear hT
  go_loopw [12] (fun iv Wr => ∃ (i : Int) (st : Nat → Bool) (out : Nat → V3), iv = .int .i64 i ∧ -1 ≤ i ∧ i ≤ s ∧ Wr.ownsRow w1.heap.size 27 3 (.slice ao n co) n (gvl out n) ∧ VB Wr w2.heap.size n (fun o => .bool (st o)) ∧ BJ n st out F0 (fwK l F0 (i + 1).toNat) FF ∧ Keeps (fun _ => False) w Wr ∧ Keeps (fun b => w1.heap.size ≤ b) w1 Wr) (fun iv _ => (intOf iv + 1).toNat)
  case atStart => exact ⟨s, _, _, rfl, hs.1, Int.le_refl _, ho3, hM3, by rw [HFF.out]; exact BJ.first n F0 FF, kw3, k13⟩
  case round =>
    obtain ⟨i, st, out, rfl, hi1, hi2, hO, hM, hB, kr, kt⟩ := hrel
    clear ho3 hM3 kw3 k13
    by_cases hi : 0 ≤ i
    · obtain ⟨q, rfl⟩ : ∃ q : Nat, i = (q : Int) := ⟨i.toNat, by omega⟩
      have d0 : decide (0 ≤ (q : Int)) = true := decide_eq_true hi
      have hqN : q < N := by omega
      obtain ⟨b, off, rfl, hc⟩ := HL.out q hqN
      have hwr := HWR.out q hqN
      have hwn := HWN.out q
      have q1 : (0 : Int) ≤ (q : Int) := hi
      have q2 : (q : Int) < (N : Int) := by omega
      have hw1 : IntKind.i64.wrap ((q : Int) - 1) = (q : Int) - 1 := by rw [IntKind.wrap_i64]; omega
      rw [show ((q : Int) + 1).toNat = q + 1 by omega] at hB
      have d25 := kr.cell (hc 25 _ rfl) (fun e => e)
      have d4 := kr.cell (hc 4 _ rfl) (fun e => e)
      generalize l.getD q rw0 = r at *
      by_cases hfin : r.fin = 1
      · have s1 : (r.fin != 1) = false := by simp [hfin]
        obtain ⟨hno, hin, hpos, hlay⟩ := hwr hfin
        obtain ⟨i0, en⟩ : ∃ i0 : Nat, r.no = (i0 : Int) + 1 := ⟨(r.no - 1).toNat, by omega⟩
        rw [en, show ((i0 : Int) + 1 - 1).toNat = i0 by omega] at hin hpos hlay
        rw [hlay] at hB
        rw [en] at d4
        have hTL := HTL.out
        have n1 : (0 : Int) ≤ (i0 : Int) := by omega
        have n2 : (i0 : Int) < (ts.length : Int) := by omega
        have hw : IntKind.i64.wrap ((i0 : Int) + 1 - 1) = (i0 : Int) := by rw [IntKind.wrap_i64]; omega
        have hw2 : IntKind.i64.wrap (i0 : Int) = (i0 : Int) := by rw [IntKind.wrap_i64]; omega
        obtain ⟨g6, rfl⟩ : ∃ g6, al = some ⟨g6, 0, none⟩ := by
          rcases HT.out.o.2 with ⟨_, h0⟩ | ⟨g', _, _, e, _⟩
          · omega
          · injection e with e _ _
            exact ⟨g', e⟩
        have hlt6 := owns_lt' HT.out.o g6 rfl
        have x10 := kt.cell ((own_cl HT.out.o).c _ _ (gcl_get (c := fun i => (ts.getD i tv0).cells (sv i) (wv i)) (fun _ _ => rfl) hin 10 (wv i0) rfl)) (fun e => by have e : w1.heap.size ≤ g6 := e; omega)
        have hws := HT.out.w i0 hin
        have hlw := owns_lt' hws
        have hls := (HT.out.ls i0 hin).2
        have hpos' : ∀ (k : Nat) (x : Wo), (ts.getD i0 tv0).wrs[k]? = some x → 0 ≤ x.object := fun k x hx => hpos x (List.mem_of_getElem? hx)
        obtain ⟨aw, cw, ew, hWR, -⟩ := wrl_of hws
        rw [ew] at x10 hlw
        have hBK := hB.enter
        have HBB : Hid (BK (ts.getD i0 tv0).wrs 0 n st out F0 (fwK l F0 q) FF) := hBK
        clear hws hwr hwn hpos hlay hB hBK hno en hfin hc hi
        generalize (ts.getD i0 tv0).wrs = ws at *
        generalize hnw : ws.length = nw at *
        go_wp2_with fail
        go_loopw [14] (fun kv Wr => ∃ (k : Nat) (st : Nat → Bool) (out : Nat → V3), kv = .int .i64 (k : Int) ∧ k ≤ nw ∧ Wr.ownsRow w1.heap.size 27 3 (.slice ao n co) n (gvl out n) ∧ VB Wr w2.heap.size n (fun o => .bool (st o)) ∧ BK ws k n st out F0 (fwK l F0 q) FF ∧ Keeps (fun _ => False) w Wr ∧ Keeps (fun b => w1.heap.size ≤ b) w1 Wr) (fun kv _ => nw - (intOf kv).toNat)
        case atStart => exact ⟨0, _, _, rfl, Nat.zero_le _, hO, hM, HBB.out, kr, kt⟩
        case round =>
          clear hO hM HBB kr kt d25 d4 x10
          obtain ⟨k, st, out, rfl, hk, hO, hM, hB, kr, kt⟩ := hrel
          by_cases hkn : k < nw
          · have l1 : decide ((k : Int) < (nw : Int)) = true := decide_eq_true (by omega)
            have l2 : decide (k < nw) = true := decide_eq_true hkn
            have l3 : (k : Int) < (nw : Int) := by omega
            have l4 : (0 : Int) ≤ (k : Int) := by omega
            have hwk : IntKind.i64.wrap ((k : Int) + 1) = (k : Int) + 1 := by rw [IntKind.wrap_i64]; omega
            obtain ⟨x, hx⟩ : ∃ x, ws[k]? = some x := ⟨_, List.getElem?_eq_getElem (by omega)⟩
            have hxp := hpos' k x hx
            obtain ⟨gw, rfl, hcw⟩ := hWR k x hx
            have hgw := hlw gw rfl
            have hSD : SD gw k x wr := fun j v e => kt.cell (hcw j v e) (fun e => by have e : w1.heap.size ≤ gw := e; omega)
            have c0 : wr.cell? ⟨gw, k * 4, none⟩ = some (.int .i64 x.object) := hSD 0 _ rfl
            by_cases hon : x.object < (n : Int)
            · obtain ⟨oi, eo⟩ : ∃ oi : Nat, x.object = (oi : Int) := ⟨x.object.toNat, by omega⟩
              have o1 : decide ((oi : Int) < (n : Int)) = true := decide_eq_true (by omega)
              have o1' : decide (oi < n) = true := decide_eq_true (by omega)
              have o2 : (oi : Int) < (n : Int) := by omega
              have o3 : (0 : Int) ≤ (oi : Int) := by omega
              have o4 : oi < n := by omega
              have HOB : Hid (x.object = (oi : Int)) := eo
              rw [eo] at c0
              have cst := hM.c oi o4
              have zst := hM.z oi o4
              cases hst : st oi with
              | true =>
                rw [hst] at cst
                have hB2 := hB.skip hx (fun o ho e => by rw [HOB.out] at e; have e9 : o = oi := (by omega); rw [e9]; exact hst)
                clear hst
                go_wp2_with fail
                go_roundw
                case rel => exact ⟨k + 1, _, _, by go_num, by omega, hO, hM, hB2, kr, kt⟩
                case measure => simp [intOf]; omega
              | false =>
                rw [hst] at cst
                have hB2 := hB.put hx o4 HOB.out hst
                obtain ⟨go, rfl⟩ : ∃ go, ao = some ⟨go, 0, none⟩ := by
                  rcases hO.2 with ⟨_, h0⟩ | ⟨g', _, _, e, _⟩
                  · omega
                  · injection e with e _ _
                    exact ⟨g', e⟩
                have hgo := hlo go rfl
                obtain ⟨W5, hW5⟩ : ∃ W5, W5 = wr.setCell ⟨w2.heap.size, oi, none⟩ (.bool true) := ⟨_, rfl⟩
                have k5 : Keeps (fun b => b = w2.heap.size) wr W5 := by rw [hW5]; exact (Keeps.refl (fun b => b = w2.heap.size) wr).setCell (p := ⟨w2.heap.size, oi, none⟩) (fun _ => rfl) _
                have hM5 : VB W5 w2.heap.size n (fun o => .bool (if o = oi then true else st o)) := by
                  have h := hM.set o4 (.bool true)
                  rw [← hW5] at h
                  refine ⟨fun o ho => ?_, h.z⟩
                  rw [h.c o ho]
                  by_cases e : o = oi
                  · rw [if_pos e, if_pos e]
                  · rw [if_neg e, if_neg e]
                have hO5 := k5.owns hO (fun b e1 e2 => by have := hlo b e1; have e2 : b = w2.heap.size := e2; omega)
                have hSDd : SD gw k x W5.drew := fun j v e => ((k5.trans' (Keeps.refl (fun _ => False) W5).drew (fun _ _ e => e) (fun _ _ e => e.elim)).cell (hSD j v e) (fun e => by have e : gw = w2.heap.size := e; omega))
                have hO6 := (Keeps.refl (fun _ => False) W5).drew.owns hO5 (fun _ _ e => e)
                have hM6 := hM5.keepZ (Keeps.refl (fun _ => False) W5).drew (fun e => e)
                have hthere := (own_cl hO6).there (o := oi * 3) (n := 3) (by rw [gvl_len]; omega)
                have hO7 := owns_sets x.v3.cells (oi * 3) hO6 (by rw [gvl_len]; show oi * 3 + 3 ≤ _; omega)
                rw [gvl_sets o4] at hO7
                have k7 : Keeps (fun b => b = go) W5.drew (W5.drew.setCells go (oi * 3) x.v3.cells) := (Keeps.refl _ W5.drew).setsA _ _
                have hM7 := hM6.keepZ k7 (fun e => by have e : w2.heap.size = go := e; omega)
                have hS9 : SD gw k x (W5.drew.setCells go (oi * 3) x.v3.cells.toArray.toList) := fun j v e => k7.cell (hSDd j v e) (fun e => by have e : gw = go := e; omega)
                have K7 : Keeps (fun b => w1.heap.size ≤ b) wr (W5.drew.setCells go (oi * 3) x.v3.cells) := (k5.trans' (Keeps.refl (fun _ => False) W5).drew (fun _ _ e => e) (fun _ _ e => e.elim)).trans' k7 (fun b _ e => by have e : b = w2.heap.size := e; show w1.heap.size ≤ b; omega) (fun b _ e => by have e : b = go := e; show w1.heap.size ≤ b; omega)
                have kr7 : Keeps (fun _ => False) w (W5.drew.setCells go (oi * 3) x.v3.cells) := kr.trans' K7 (fun _ _ e => e) (fun b hb e => by have e : w1.heap.size ≤ b := e; omega)
                have kt7 : Keeps (fun b => w1.heap.size ≤ b) w1 (W5.drew.setCells go (oi * 3) x.v3.cells) := kt.trans' K7 (fun _ _ e => e) (fun _ _ e => e)
                have HW5 : Hid (W5 = wr.setCell ⟨w2.heap.size, oi, none⟩ (.bool true)) := hW5
                clear hst hW5 k5 hM5 hO5 hM6 hO6 k7 K7 hSD hM hO hB
                go_wp2_with fail
                rw [← HW5.out]
                clear HW5
                refine wp_region_held_drew (S := SD gw k x) (by kernel_rfl) hSDd (fun hHeld => ?_)
                refine wpAnyH_take (i := 0) (v := ?_) rfl (by kernel_rfl) (by kernel_rfl) (by kernel_rfl) (fun _ _ _ h => h) (Or.inl ⟨by rfl, ?_⟩) (by assumption) ?_
                rotate_left
                · intro wx hSw; clear hSw; go_simp <;> with_reducible rfl
                (try simp only [List.getElem_toArray]); (try simp only [List.getElem_cons_succ]); (try simp only [List.getElem_cons_zero]); (try simp only [Act.put]); (try simp only [List.setIfInBounds_toArray]); (repeat first | simp only [List.set_cons_succ] | simp only [List.set_cons_zero])
                refine wpAnyH_take (i := 1) (v := ?_) rfl (by kernel_rfl) (by kernel_rfl) (by kernel_rfl) (fun _ _ _ h => h) (Or.inl ⟨by rfl, ?_⟩) (by assumption) ?_
                rotate_left
                · intro wx hSw; clear hSw; go_simp <;> with_reducible rfl
                (try simp only [List.getElem_toArray]); (try simp only [List.getElem_cons_succ]); (try simp only [List.getElem_cons_zero]); (try simp only [Act.put]); (try simp only [List.setIfInBounds_toArray]); (repeat first | simp only [List.set_cons_succ] | simp only [List.set_cons_zero])
                refine wpAnyH_take (i := 2) (v := ?_) rfl (by kernel_rfl) (by kernel_rfl) (by kernel_rfl) (fun _ _ _ h => h) (Or.inl ⟨by rfl, ?_⟩) (by assumption) ?_
                rotate_left
                · intro wx hSw; clear hSw; go_simp <;> with_reducible rfl
                (try simp only [List.getElem_toArray]); (try simp only [List.getElem_cons_succ]); (try simp only [List.getElem_cons_zero]); (try simp only [Act.put]); (try simp only [List.setIfInBounds_toArray]); (repeat first | simp only [List.set_cons_succ] | simp only [List.set_cons_zero])
                refine wpAnyH_take (i := 3) (v := ?_) rfl (by kernel_rfl) (by kernel_rfl) (by kernel_rfl) (fun _ _ _ h => h) (Or.inl ⟨by rfl, ?_⟩) (by assumption) ?_
                rotate_left
                · intro wx hSw; clear hSw; go_simp <;> with_reducible rfl
                (try simp only [List.getElem_toArray]); (try simp only [List.getElem_cons_succ]); (try simp only [List.getElem_cons_zero]); (try simp only [Act.put]); (try simp only [List.setIfInBounds_toArray]); (repeat first | simp only [List.set_cons_succ] | simp only [List.set_cons_zero])
                refine wpAnyH_take (i := 4) (v := ?_) rfl (by kernel_rfl) (by kernel_rfl) (by kernel_rfl) (fun _ _ _ h => h) (Or.inl ⟨by rfl, ?_⟩) (by assumption) ?_
                rotate_left
                · intro wx hSw; clear hSw; go_simp <;> with_reducible rfl
                (try simp only [List.getElem_toArray]); (try simp only [List.getElem_cons_succ]); (try simp only [List.getElem_cons_zero]); (try simp only [Act.put]); (try simp only [List.setIfInBounds_toArray]); (repeat first | simp only [List.set_cons_succ] | simp only [List.set_cons_zero])
                refine wpAnyH_take (i := 5) (v := ?_) rfl (by kernel_rfl) (by kernel_rfl) (by kernel_rfl) (fun _ _ _ h => h) (Or.inl ⟨by rfl, ?_⟩) (by assumption) ?_
                rotate_left
                · intro wx hSw; have p0 : wx.cell? ⟨gw, k * 4, none⟩ = some (.int .i64 x.object) := hSw 0 _ rfl; rw [HOB.out] at p0; clear hSw; go_simp <;> with_reducible rfl
                (try simp only [List.getElem_toArray]); (try simp only [List.getElem_cons_succ]); (try simp only [List.getElem_cons_zero]); (try simp only [Act.put]); (try simp only [List.setIfInBounds_toArray]); (repeat first | simp only [List.set_cons_succ] | simp only [List.set_cons_zero])
                refine wpAnyH_take (i := 6) (v := ?_) rfl (by kernel_rfl) (by kernel_rfl) (by kernel_rfl) (fun _ _ _ h => h) (Or.inl ⟨by rfl, ?_⟩) (by assumption) ?_
                rotate_left
                · intro wx hSw; clear hSw; go_simp <;> with_reducible rfl
                (try simp only [List.getElem_toArray]); (try simp only [List.getElem_cons_succ]); (try simp only [List.getElem_cons_zero]); (try simp only [Act.put]); (try simp only [List.setIfInBounds_toArray]); (repeat first | simp only [List.set_cons_succ] | simp only [List.set_cons_zero])
                refine wpAnyH_take (i := 7) (v := ?_) rfl (by kernel_rfl) (by kernel_rfl) (by kernel_rfl) (fun _ _ _ h => h) (Or.inl ⟨by rfl, ?_⟩) (by assumption) ?_
                rotate_left
                · intro wx hSw; clear hSw; go_simp <;> with_reducible rfl
                (try simp only [List.getElem_toArray]); (try simp only [List.getElem_cons_succ]); (try simp only [List.getElem_cons_zero]); (try simp only [Act.put]); (try simp only [List.setIfInBounds_toArray]); (repeat first | simp only [List.set_cons_succ] | simp only [List.set_cons_zero])
                refine wpAnyH_take (i := 8) (v := ?_) rfl (by kernel_rfl) (by kernel_rfl) (by kernel_rfl) (fun _ _ _ h => h) (Or.inl ⟨by rfl, ?_⟩) (by assumption) ?_
                rotate_left
                · intro wx hSw; clear hSw; go_simp <;> with_reducible rfl
                (try simp only [List.getElem_toArray]); (try simp only [List.getElem_cons_succ]); (try simp only [List.getElem_cons_zero]); (try simp only [Act.put]); (try simp only [List.setIfInBounds_toArray]); (repeat first | simp only [List.set_cons_succ] | simp only [List.set_cons_zero])
                refine wpAnyH_take (i := 9) (v := ?_) rfl (by kernel_rfl) (by kernel_rfl) (by kernel_rfl) (fun _ _ _ h => h) (Or.inl ⟨by rfl, ?_⟩) (by assumption) ?_
                rotate_left
                · intro wx hSw; clear hSw; go_simp <;> with_reducible rfl
                (try simp only [List.getElem_toArray]); (try simp only [List.getElem_cons_succ]); (try simp only [List.getElem_cons_zero]); (try simp only [Act.put]); (try simp only [List.setIfInBounds_toArray]); (repeat first | simp only [List.set_cons_succ] | simp only [List.set_cons_zero])
                refine wpAnyH_take (i := 10) (v := (.agg x.v3.cells.toArray)) rfl (by kernel_rfl) (by kernel_rfl) (by kernel_rfl) (fun _ _ _ h => h) (Or.inl ⟨by rfl, ?_⟩) (by assumption) ?_
                · intro wx hSw; exact takes_load 27 _ rfl ⟨gw, k * 4 + 1, none⟩ rfl (run_vlAt (v := x.v3) (fun j u e => hSw (j + 1) u (by simpa [V3.cells, Wo.v3, Wo.cells] using e) |> fun h => by rwa [show k * 4 + (j + 1) = k * 4 + 1 + j by omega] at h))
                (try simp only [List.getElem_toArray]); (try simp only [List.getElem_cons_succ]); (try simp only [List.getElem_cons_zero]); (try simp only [Act.put]); (try simp only [List.setIfInBounds_toArray]); (repeat first | simp only [List.set_cons_succ] | simp only [List.set_cons_zero])
                refine wpAnyH_take (i := 11) (v := ?_) rfl (by kernel_rfl) (by kernel_rfl) (by kernel_rfl) (fun _ _ _ h => h) (Or.inl ⟨by rfl, ?_⟩) (by assumption) ?_
                rotate_left
                · intro wx hSw; clear hSw; go_simp <;> with_reducible rfl
                (try simp only [List.getElem_toArray]); (try simp only [List.getElem_cons_succ]); (try simp only [List.getElem_cons_zero]); (try simp only [Act.put]); (try simp only [List.setIfInBounds_toArray]); (repeat first | simp only [List.set_cons_succ] | simp only [List.set_cons_zero])
                refine wpAnyH_store 12 (by kernel_rfl) rfl rfl 27 _ _ rfl go (oi * 3) 3 _ rfl rfl rfl hthere iVl (one_v3a x.v3) hS9 (fun _ => ?_)
                (try simp only [List.getElem_toArray]); (try simp only [List.getElem_cons_succ]); (try simp only [List.getElem_cons_zero]); (try simp only [Act.put]); (try simp only [List.setIfInBounds_toArray]); (repeat first | simp only [List.set_cons_succ] | simp only [List.set_cons_zero])
                refine wpAnyH_done (by kernel_rfl) ?_ _
                go_wp2_with fail
                go_roundw
                case rel => exact ⟨k + 1, _, _, by go_num, by omega, hO7, hM7, hB2, kr7, kt7⟩
                case measure => simp [intOf]; omega
            · have o1 : decide (x.object < (n : Int)) = false := decide_eq_false hon
              have hB2 := hB.skip hx (fun o ho e => by omega)
              go_wp2_with fail
              go_roundw
              case rel => exact ⟨k + 1, _, _, by go_num, by omega, hO, hM, hB2, kr, kt⟩
              case measure => simp [intOf]; omega
          · obtain rfl : k = nw := by omega
            have l1 : decide ((k : Int) < (k : Int)) = false := decide_eq_false (by omega)
            have l2 : decide (k < k) = false := decide_eq_false (by omega)
            have hB2 := hB.leave (by omega)
            go_wp2_with fail
            go_roundw
            case rel => exact ⟨(q : Int) - 1, _, _, rfl, by omega, by omega, hO, hM, by rw [show ((q : Int) - 1 + 1).toNat = q by omega]; exact hB2, kr, kt⟩
            case measure => simp [intOf] <;> omega
      · have s1 : (r.fin != 1) = true := by simp [hfin]
        have hB2 := hB
        rw [hwn hfin] at hB2
        clear hwr hwn hB hc
        go_wp2_with fail
        go_roundw
        case rel => exact ⟨(q : Int) - 1, _, _, rfl, by omega, by omega, hO, hM, by rw [show ((q : Int) - 1 + 1).toNat = q by omega]; exact hB2, kr, kt⟩
        case measure => simp [intOf] <;> omega
    · have d0 : decide (0 ≤ i) = false := decide_eq_false hi
      obtain rfl : i = -1 := by omega
      have hfin : gvl out n = gvl FF n := gvl_congr (fun o ho => by
        cases h : st o with
        | true => exact (hB o ho).1 h
        | false =>
          obtain ⟨e1, e2⟩ := (hB o ho).2 h
          rw [e1, ← e2]
          show F0 o = fwK l F0 (-1 + 1 : Int).toNat o
          rfl)
      rw [hfin] at hO
      go_wp2_with fail
      go_ret2
      exact ⟨_, rfl, owns_low hO z1, kr⟩
end Go.Proofs.Ytmnmphkkcabkiaa

namespace Go.Proofs.Ytmnmphkkcabkiaa
open Go.RowKit Go.Maps Go.ChangeMaps Go.MapKept Go.WideShapes
attribute [local go_sem] Oper.semAt_some run_store_nf run_store_f
set_option maxHeartbeats 1000000 in
set_option maxRecDepth 100000 in
theorem upTo_no {w : World} {a : Option Addr} {cap i : Nat} {s : Int} {l : List Rw} (hl : RSL w a l) (hlen : l.length ≤ 980000000000) (hf : fstP l 0 (f0 6) = some i) : Calls Try.prog 20 #[.slice a l.length cap, .int .i64 s] w fun e w' => e = .returned (.tuple #[.slice none 0 0, .int .i64 150]) ∧ Keeps (fun _ => False) w w' := by
  have hck := check_any (cap := cap) hl (by omega)
  rw [hf] at hck
  unfold ansP at hck
  dsimp only at hck
  clear hl hf
  generalize l.length = N at *
  go_enter Try.func20, Try.ntmps20
  go_wp2_with (go_at_call 23; refine hck.mono ?_; clear hck; rintro e w1 ⟨rfl, k1⟩)
  go_ret2
  exact ⟨rfl, k1⟩
set_option maxHeartbeats 1000000 in
set_option maxRecDepth 100000 in
theorem upTo_when {w : World} {a : Option Addr} {cap : Nat} {s : Int} {l : List Rw} (hl : RSL w a l) (hlen : l.length ≤ 980000000000) (hf : fstP l 0 (f0 6) = none) (hs : s < -1 ∨ (l.length : Int) ≤ s) : Calls Try.prog 20 #[.slice a l.length cap, .int .i64 s] w fun e w' => e = .returned (.tuple #[.slice none 0 0, .int .i64 151]) ∧ Keeps (fun _ => False) w w' := by
  have hck := check_any (cap := cap) hl (by omega)
  rw [hf] at hck
  unfold ansP at hck
  dsimp only at hck
  clear hl hf
  generalize l.length = N at *
  by_cases h1 : s < -1
  · have m1 : decide (s < -1) = true := decide_eq_true h1
    go_enter Try.func20, Try.ntmps20
    go_wp2_with (go_at_call 23; refine hck.mono ?_; clear hck; rintro e w1 ⟨rfl, k1⟩)
    go_ret2
    exact ⟨rfl, k1⟩
  · have m1 : decide (s < -1) = false := decide_eq_false h1
    have m2 : decide ((N : Int) ≤ s) = true := decide_eq_true (by omega)
    have m3 : (N : Int) ≤ s := by omega
    go_enter Try.func20, Try.ntmps20
    go_wp2_with (go_at_call 23; refine hck.mono ?_; clear hck; rintro e w1 ⟨rfl, k1⟩)
    go_ret2
    exact ⟨rfl, k1⟩
set_option maxHeartbeats 1000000 in
set_option maxRecDepth 100000 in
theorem upTo_ok {w : World} {a : Option Addr} {cap k : Nat} {s : Int} {l : List Rw} (hl : RSL w a l) (hlen : l.length ≤ 980000000000) (hcap : l.length ≤ cap) (hz : a = none → cap = 0) (hf : fstP l 0 (f0 6) = none) (hs : -1 ≤ s ∧ s < (l.length : Int)) (hk : s + 1 = (k : Int)) : Calls Try.prog 20 #[.slice a l.length cap, .int .i64 s] w fun e w' => e = .returned (.tuple #[.slice a k cap, .int .i64 0]) ∧ Keeps (fun _ => False) w w' := by
  have hck := check_any (cap := cap) hl (by omega)
  rw [hf] at hck
  unfold ansP at hck
  dsimp only at hck
  have m1 : decide (s < -1) = false := decide_eq_false (by omega)
  have m2 : decide ((l.length : Int) ≤ s) = false := decide_eq_false (by omega)
  have hkc : k ≤ cap := by omega
  have hw : IntKind.i64.wrap (s + 1) = (k : Int) := by rw [IntKind.wrap_i64]; omega
  have k1 : (0 : Int) ≤ (k : Int) := by omega
  have k2 : (k : Int) ≤ (cap : Int) := by omega
  clear hl hf
  generalize l.length = N at *
  have HK : Hid (s + 1 = (k : Int)) := hk
  clear hk
  cases a with
  | none =>
    have hc0 := hz rfl
    subst hc0
    obtain rfl : k = 0 := by omega
    go_enter Try.func20, Try.ntmps20
    go_wp2_with (go_at_call 23; refine hck.mono ?_; clear hck; rintro e w1 ⟨rfl, k1⟩)
    go_ret2
    exact ⟨rfl, k1⟩
  | some ad =>
    clear hz
    go_enter Try.func20, Try.ntmps20
    go_wp2_with (go_at_call 23; refine hck.mono ?_; clear hck; rintro e w1 ⟨rfl, k1⟩)
    go_ret2
    exact ⟨rfl, k1⟩
set_option maxHeartbeats 1000000 in
set_option maxRecDepth 100000 in
theorem clone_v {w : World} {fa : Option Addr} {n fc : Nat} {F0 : Nat → V3} (hv : VS w fa n F0) (hz : fa = none → fc = 0) (hn : n * 24 ≤ 140737488355328) : Calls Try.prog 21 #[.slice fa n fc] w fun e w' => ∃ v, e = .returned v ∧ w'.ownsRow w.heap.size 27 3 v n (gvl F0 n) ∧ Keeps (fun _ => False) w w' := by
  obtain ⟨v', W', h1, h2, h3⟩ := copy_v fc hv hz hn
  cases fa with
  | none =>
    have h0 : n = 0 := by
      cases n with
      | zero => rfl
      | succ m => obtain ⟨b, off, e, _⟩ := hv 0 (by omega); cases e
    subst h0
    have hc0 := hz rfl
    subst hc0
    have hq : ∀ w : World, (binOp .eql 22 (.slice none 0 0) (.slice none 0 0)).run Try.prog w = .ok (.bool true) w := fun w => by kernel_rfl
    clear h1 h2 h3 hv hz
    go_enter Try.func21, Try.ntmps21
    go_wp2
    go_ret
    exact ⟨_, rfl, World.ownsRow_nil _ _ _ _, Keeps.refl _ _⟩
  | some ad =>
    have hq : ∀ w : World, (binOp .eql 22 (.slice (some ad) n fc) (.slice none 0 0)).run Try.prog w = .ok (.bool false) w := fun w => by kernel_rfl
    clear hv hz
    go_enter Try.func21, Try.ntmps21
    go_wp2_with (at_builtin; refine wpList_append_run rfl _ _ _ rfl _ _ _ W' rfl rfl h1 ?_; clear h1)
    go_ret
    exact ⟨_, rfl, h2, h3⟩
end Go.Proofs.Ytmnmphkkcabkiaa

namespace Go.Proofs.Ytmnmphkkcabkiaa
open Go.RowKit Go.Maps Go.ChangeMaps Go.MapKept Go.WideShapes
attribute [local go_sem] Oper.semAt_some run_store_nf run_store_f
def LA (ws : List Wo) (left : Lit → Bool) (n : Nat) (F0 F : Nat → V3) : Prop := ∀ i, i < n → F i = if left (.int .i64 (i : Int)) then F0 i else (wov ws (i : Int)).getD (F0 i)
theorem same_int (a b : Int) : (Lit.int .i64 a).sameKey (.int .i64 b) = decide (a = b) := by
  by_cases h : a = b
  · subst h
    simp [Lit.sameKey]
  · simp [Lit.sameKey, h]
theorem LA.put {ws : List Wo} {left : Lit → Bool} {n xi : Nat} {F0 F : Nat → V3} {y : Wo} (h : LA ws left n F0 F) (hy : wov ws (xi : Int) = some y.v3) : LA ws (fun z => left z && !z.sameKey (.int .i64 (xi : Int))) n F0 (fun j => if j = xi then y.v3 else F j) := fun i hi => by
  have hh := h i hi
  by_cases e : i = xi
  · subst e
    simp [same_int, hy]
  · simp [same_int, e, show ¬ (i : Int) = (xi : Int) by omega]
    exact hh
theorem LA.skip {ws : List Wo} {left : Lit → Bool} {n xi : Nat} {F0 F : Nat → V3} (h : LA ws left n F0 F) (hx : n ≤ xi) : LA ws (fun z => left z && !z.sameKey (.int .i64 (xi : Int))) n F0 F := fun i hi => by
  have hh := h i hi
  simp [same_int, show ¬ (i : Int) = (xi : Int) by omega]
  exact hh
theorem left_next {ws : List Wo} {left : Lit → Bool} {x : Int} (h : ∀ o, I64 o → left (.int .i64 o) = true → (wof ws o).isSome = true) : ∀ o, I64 o → (fun z : Lit => left z && !z.sameKey (.int .i64 x)) (.int .i64 o) = true → (wof ws o).isSome = true := fun o ho e => by
  simp only [Bool.and_eq_true] at e
  exact h o ho e.1
set_option maxHeartbeats 1000000 in
set_option maxRecDepth 100000 in
theorem lay_any {base b m : Nat} {w : World} {ws : List Wo} {n : Nat} {v : Value} {F0 : Nat → V3} (hM : MV w b m (wof ws)) (hpos : ∀ x ∈ ws, 0 ≤ x.object) (hO : w.ownsRow base 27 3 v n (gvl F0 n)) (hb : ∀ g, v.ownBlock = some g → g ≠ b) (hn : n ≤ 9223372036854775807) : Calls Try.prog 22 #[.map (some b), v] w fun e w' => e = .returned (.tuple #[]) ∧ w'.ownsRow base 27 3 v n (gvl (layF ws F0) n) ∧ Keeps (fun g => v.ownBlock = some g) w w' := by
  obtain ⟨D, h1, h2, h3⟩ := hM
  have hbl := h1.lt
  have HD3 : Hid (∀ k, I64 k → Maps.has D (.int .i64 k) = (wof ws k).isSome ∧ ∀ u, wof ws k = some u → ∀ z, D.atKey (.int .i64 k) z = .held u) := h3
  clear h3
  obtain ⟨ao, co, rfl, -⟩ := own_slice hO
  have hgl : ∀ g, (Value.slice ao n co).ownBlock = some g → g < w.heap.size := fun g e => owns_lt' hO g e
  have HPO : Hid (∀ x ∈ ws, 0 ≤ x.object) := hpos
  clear hpos
  go_enter Try.func22, Try.ntmps22
  go_wp2_with (refine wpList_range_own w rfl _ 64 rfl 3 27 keyed underW Rh b m D rfl h1 ?_; intro w1 hr1 hg1 hz1)
  (try simp only [List.getElem_toArray]); (try simp only [List.getElem_cons_succ]); (try simp only [List.getElem_cons_zero]); (try simp only [Act.put]); (try simp only [List.setIfInBounds_toArray]); (repeat first | simp only [List.set_cons_succ] | simp only [List.set_cons_zero])
  have k1 : Keeps (fun _ => False) w w1 := (Keeps.refl _ w).grown hg1 (fun _ _ e => by cases e)
  rw [h2] at hr1
  have hO1 := k1.owns hO (fun _ _ e => e)
  go_loopw [] (fun Wr => ∃ (left : Lit → Bool) (cnt : Nat) (F : Nat → V3), Wr.ranges Try.prog 3 Rh b w.heap.size m D left cnt ∧ Wr.ownsRow base 27 3 (.slice ao n co) n (gvl F n) ∧ LA ws left n F0 F ∧ (∀ o, I64 o → left (.int .i64 o) = true → (wof ws o).isSome = true) ∧ Keeps (fun g => (Value.slice ao n co).ownBlock = some g) w Wr) (fun Wr => Wr.rangeLeft b w.heap.size)
  case atStart =>
    refine ⟨_, _, F0, hr1, hO1, fun i hi => ?_, fun o ho h => ?_, k1.mono (fun _ _ e => e.elim)⟩
    · have h := (HD3.out (i : Int) ⟨by omega, by omega⟩).1
      by_cases hh : Maps.has D (.int .i64 (i : Int)) = true
      · rw [if_pos hh]
      · rw [if_neg hh]
        have hh : Maps.has D (.int .i64 (i : Int)) = false := by simpa using hh
        rw [hh, wov_some] at h
        cases e : wov ws (i : Int) with
        | none => rfl
        | some u => rw [e] at h; cases h
    · rw [← (HD3.out o ho).1]
      exact h
  case round =>
    obtain ⟨left, cnt, F, hrg, hown, hL, hLs, kr⟩ := hrel
    clear hr1 k1 hg1 hz1 hO1 hO
    have hle := hrg.left_eq
    have hrl := hrg.lt
    by_cases hc : cnt = 0
    · go_wp2_with (refine wpList_next_ranges wr rfl _ rfl 3 keyed Rh (Value.int .i64) id (fun key kl hk => by obtain ⟨x, rfl, _⟩ := Maps.keyOf_int_inv underI hk; exact ⟨x, rfl⟩) (fun v y _ => ⟨v, rfl⟩) b w.heap.size m D left cnt rfl hrg (fun _ hl => ?_) (fun _ _ _ _ _ _ _ _ _ _ _ hlt => absurd hlt (by omega)))
      have e : gvl F n = gvl (layF ws F0) n := gvl_congr (fun i hi => by rw [hL i hi, hl]; rfl)
      rw [e] at hown
      go_end0
      exact ⟨rfl, hown, kr⟩
    · have hne : ¬ b = w.heap.size := by omega
      have HL : Hid (LA ws left n F0 F) := hL
      have HLS : Hid (∀ o, I64 o → left (.int .i64 o) = true → (wof ws o).isSome = true) := hLs
      have HY : Hid (∀ x, I64 x → left (.int .i64 x) = true → ∀ cv, (∀ zd, D.atKey (.int .i64 x) zd = .held cv) → ∃ y : Wo, y.object = x ∧ cv = y.val ∧ wof ws x = some y.val ∧ 0 ≤ x) := fun x hx hl cv hcv => by
        have hs := hLs x hx hl
        obtain ⟨u, hu⟩ := Option.isSome_iff_exists.1 hs
        obtain ⟨y, hy, e1, e2⟩ := wof_mem hu
        have e3 := (HD3.out x hx).2 u hu (.held (.int .i64 0))
        rw [hcv] at e3
        exact ⟨y, e1, by rw [DataW.held.inj e3, e2], by rw [hu, e2], by rw [← e1]; exact HPO.out y hy⟩
      clear hL hLs
      by_cases hn0 : n = 0
      · subst hn0
        go_wp2_with (first | (refine wpList_next_ranges wr rfl _ rfl 3 keyed Rh (Value.int .i64) id (fun key kl hk => by obtain ⟨x, rfl, _⟩ := Maps.keyOf_int_inv underI hk; exact ⟨x, rfl⟩) (fun v y _ => ⟨v, rfl⟩) b w.heap.size m D left cnt rfl hrg (fun h0 => absurd h0 hc) ?_; intro x cv kl yy w2 cnt2 hkey hlk hy hat hrg2 hlt2 hgr2 hsz2 hen2; clear hsz2; obtain ⟨x', ex, ek, hwx⟩ := Maps.keyOf_int_inv underI hkey; injection ex with _ ex; subst ex; subst ek; have hat' : ∀ zd, D.atKey (.int .i64 x) zd = .held cv := fun zd => (hat zd).trans (congrArg Prod.fst (Option.some.inj hy)).symm; obtain ⟨y, ey, rfl, hyv, hx0⟩ := HY.out x (i64_wf hwx) hlk cv hat'; have k2 : Keeps (fun i => i = w.heap.size) wr w2 := (Keeps.refl _ wr).grown hgr2 (fun _ _ e => by cases e; rfl); unfold Wo.val at hen2; dsimp only [id] at hen2; obtain ⟨xi, exi⟩ : ∃ xi : Nat, x = (xi : Int) := ⟨x.toNat, by omega⟩; subst exi; have hyw := wov_at hyv; clear hyv ey hat hat' hy hkey hwx HY; have k4 : Keeps (fun _ => False) w2 (w2.alloc (.cells #[.int .i64 y.vN, .int .i64 y.vX, .bool y.vD] 27)) := (Keeps.refl _ w2).alloc _; have hown4 := k4.owns (k2.owns hown (fun g e1 e2 => by have := hgl g e1; have e2 : g = w.heap.size := e2; omega)) (fun _ _ e => e); have hrg4 := ranges_keep hrg2 k4 (fun e => e) (fun e => e); have K4 : Keeps (fun g => (Value.slice ao 0 co).ownBlock = some g) w (w2.alloc (.cells #[.int .i64 y.vN, .int .i64 y.vX, .bool y.vD] 27)) := (kr.trans' k2 (fun _ _ e => e) (fun i hi e => by have e : i = w.heap.size := e; omega)).trans' k4 (fun _ _ e => e) (fun _ _ e => e.elim); have hx9 : decide ((xi : Int) < (0 : Int)) = false := decide_eq_false (by omega)))
        refine ⟨⟨_, _, F, hrg4, hown4, HL.out.skip (Nat.zero_le _), left_next HLS.out, K4⟩, ?_⟩
        rw [hrg4.left_eq, hle]
        exact hlt2
      · obtain ⟨go, rfl⟩ : ∃ go, ao = some ⟨go, 0, none⟩ := by
          rcases hown.2 with ⟨_, h0⟩ | ⟨g', _, _, e, _⟩
          · omega
          · injection e with e _ _
            exact ⟨g', e⟩
        have hgo := hgl go rfl
        have hgb := hb go rfl
        go_wp2_with (first | (refine wpList_next_ranges wr rfl _ rfl 3 keyed Rh (Value.int .i64) id (fun key kl hk => by obtain ⟨x, rfl, _⟩ := Maps.keyOf_int_inv underI hk; exact ⟨x, rfl⟩) (fun v y _ => ⟨v, rfl⟩) b w.heap.size m D left cnt rfl hrg (fun h0 => absurd h0 hc) ?_; intro x cv kl yy w2 cnt2 hkey hlk hy hat hrg2 hlt2 hgr2 hsz2 hen2; clear hsz2; obtain ⟨x', ex, ek, hwx⟩ := Maps.keyOf_int_inv underI hkey; injection ex with _ ex; subst ex; subst ek; have hat' : ∀ zd, D.atKey (.int .i64 x) zd = .held cv := fun zd => (hat zd).trans (congrArg Prod.fst (Option.some.inj hy)).symm; obtain ⟨y, ey, rfl, hyv, hx0⟩ := HY.out x (i64_wf hwx) hlk cv hat'; have k2 : Keeps (fun i => i = w.heap.size) wr w2 := (Keeps.refl _ wr).grown hgr2 (fun _ _ e => by cases e; rfl); unfold Wo.val at hen2; dsimp only [id] at hen2; obtain ⟨xi, exi⟩ : ∃ xi : Nat, x = (xi : Int) := ⟨x.toNat, by omega⟩; subst exi; have hyw := wov_at hyv; clear hyv ey hat hat' hy hkey hwx HY; have k4 : Keeps (fun _ => False) w2 (w2.alloc (.cells #[.int .i64 y.vN, .int .i64 y.vX, .bool y.vD] 27)) := (Keeps.refl _ w2).alloc _; have hown4 := k4.owns (k2.owns hown (fun g e1 e2 => by have := hgl g e1; have e2 : g = w.heap.size := e2; omega)) (fun _ _ e => e); have hrg4 := ranges_keep hrg2 k4 (fun e => e) (fun e => e); have K4 : Keeps (fun g => (Value.slice (some ⟨go, 0, none⟩) n co).ownBlock = some g) w (w2.alloc (.cells #[.int .i64 y.vN, .int .i64 y.vX, .bool y.vD] 27)) := (kr.trans' k2 (fun _ _ e => e) (fun i hi e => by have e : i = w.heap.size := e; omega)).trans' k4 (fun _ _ e => e) (fun _ _ e => e.elim); have HTH : Hid (xi < n → (w2.alloc (.cells #[.int .i64 y.vN, .int .i64 y.vX, .bool y.vD] 27)).there go (xi * 3) 3) := fun h => (own_cl hown4).there (by rw [gvl_len]; omega); have HK9 : Hid (Keeps (fun g => g = go) (w2.alloc (.cells #[.int .i64 y.vN, .int .i64 y.vX, .bool y.vD] 27)) ((w2.alloc (.cells #[.int .i64 y.vN, .int .i64 y.vX, .bool y.vD] 27)).setCells go (xi * 3) y.v3.cells)) := (Keeps.refl _ _).setsA _ _) | (refine wpList_store_mid rfl 27 _ _ rfl go (xi * 3) #[.int .i64 y.vN, .int .i64 y.vX, .bool y.vD] rfl rfl (HTH.out (by omega)) (by rw [iVl]; rfl) (one_val y) ?_))
        · have hlt9 : xi < n := by omega
          have hO9 := owns_sets y.v3.cells (xi * 3) hown4 (by rw [gvl_len]; show xi * 3 + 3 ≤ _; omega)
          rw [gvl_sets hlt9] at hO9
          have k9 := HK9.out
          have hrg9 := ranges_keep hrg4 k9 (fun e => by have e : b = go := e; omega) (fun e => by have e : w.heap.size = go := e; omega)
          have K9 := K4.trans' k9 (U := fun g => (Value.slice (some ⟨go, 0, none⟩) n co).ownBlock = some g) (fun _ _ e => e) (fun g _ e => by have e : g = go := e; rw [e]; rfl)
          refine ⟨⟨_, ⟨_, hrg9⟩, _, hO9, HL.out.put hyw, left_next HLS.out, K9⟩, ?_⟩
          have h9 := hrg9.left_eq
          (try rw [hle])
          exact Nat.lt_of_le_of_lt (Nat.le_of_eq h9) hlt2
        · refine ⟨⟨_, _, F, hrg4, hown4, HL.out.skip (by omega), left_next HLS.out, K4⟩, ?_⟩
          rw [hrg4.left_eq, hle]
          exact hlt2
end Go.Proofs.Ytmnmphkkcabkiaa

