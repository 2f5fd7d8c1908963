import Derived.Test.YtclednbclgkdaaaDoorLgS
namespace Go.Proofs.YtclednbclgkdaaaDoor
open Go.RowKit
attribute [local go_sem] Oper.semAt_some run_store_nf run_store_f
set_option maxHeartbeats 500000 in
set_option maxRecDepth 100000 in
theorem from_any {a : Option Addr} {cap B : Nat} {l : List Ins} (h64 : l.length ≤ 64) (hcan : ∀ p, p < l.length → (l.getD p ins0).can l.length = true) (hB : ∀ b off, a = some ⟨b, off, none⟩ → b ≠ B) : ∀ (mm : Nat) {w : World} {p : Nat} {L : Nat → Int} (Z : List Nat), Z.length ≤ mm → (∀ q, q < l.length → L q = 0 → q ∈ Z) → ISL w a l → WB w B (.slice a l.length cap) L → Kn l.length (nx l) L → p ≤ l.length → (∀ q, q < l.length → L q = -1 → ∃ k, Wk l.length (nx l) (k + 1) q p) → (∃ i, Wk l.length (nx l) i 0 p) → Calls Tryd.prog 24 #[.pointer (some ⟨B, 0, none⟩), .int .i64 (p : Int)] w (FromP l.length (nx l) B (.slice a l.length cap) L w p) := by
  intro mm
  induction mm using Nat.strongRecOn with
  | _ mm ih =>
    intro w p L Z hZ hz hl hb hkn hp hway hre
    by_cases hpn : p = l.length
    · have he : ((p : Int) == (l.length : Int)) = true := by simp; omega
      have c0 := hb.s
      have hH : Ht l.length (nx l) p 0 := by rw [hpn]; exact .fin
      clear ih
      go_enter Tryd.func24, Tryd.ntmps24
      go_wp2
      go_ret2
      exact .inl ⟨0, rfl, hH, L, hb, Keeps.refl _ w, hkn, fun _ _ e => e, fun _ _ e => e⟩
    · have hlt : p < l.length := by omega
      have h0 : (0 : Int) ≤ (p : Int) := by omega
      have h6 : (p : Int) < 64 := by omega
      have hne : ((p : Int) == (l.length : Int)) = false := by simp; omega
      have c0 := hb.s
      have cp := hb.c p (by omega)
      have zp := hb.z p (by omega)
      by_cases hL0 : L p = 0
      · rw [hL0] at cp
        have hb1 := hb.set (p := p) (by omega) (-1)
        have k1 : Keeps (fun k => k = B) w (w.setCell ⟨B, 1 + p, none⟩ (.int .i64 (-1))) := (Keeps.refl _ w).setA (1 + p) _
        have hl1 : ISL (w.setCell ⟨B, 1 + p, none⟩ (.int .i64 (-1))) a l := fun i hi => by
          obtain ⟨b, off, e, hc⟩ := hl i hi
          exact ⟨b, off, e, fun j v hv => k1.cell (hc j v hv) (hB b off e)⟩
        obtain ⟨b, off, rfl, hc⟩ := hl p hlt
        have hbB : b ≠ B := hB b off rfl
        have hR1 := run_insAt (W := w.setCell ⟨B, 1 + p, none⟩ (.int .i64 (-1))) (t := 38) (fun j v e => k1.cell (hc j v e) hbB) ⟨_, Tryd.underlying38⟩ iIn
        have hnk := nxt_ok (p := p) (hcan p hlt) hlt
        have hnl := nxt_len (l.getD p ins0) p
        have hNx := nexts_any (w.setCell ⟨B, 1 + p, none⟩ (.int .i64 (-1))) (l.getD p ins0) p (by omega)
        have hys : Hid (nx l p = ((l.getD p ins0).nxt p).map Int.toNat) := rfl
        generalize l.getD p ins0 = q at *
        have hltI : (p : Int) < (l.length : Int) := by omega
        -- the state behind the mark
        have hfr1 : FrG l.length (nx l) B (.slice (some ⟨b, off, none⟩) l.length cap) (fun i => if i = p then -1 else L i) (fun i => if i = p then -1 else L i) (w.setCell ⟨B, 1 + p, none⟩ (.int .i64 (-1))) (w.setCell ⟨B, 1 + p, none⟩ (.int .i64 (-1))) := ⟨hb1, Keeps.refl _ _, fun i hi => by
          by_cases e : i = p
          · right; left; exact if_pos e
          · simp only [if_neg e]; exact hkn i hi, fun _ _ e => e, fun _ _ e => e⟩
        generalize hns : q.nxt p = ns at *
        have HNS : Hid (_ = _) := hns
        clear hns
        go_enter Tryd.func24, Tryd.ntmps24
        go_wp2_with (first | (refine wpList_load_run rfl 38 _ rfl ⟨b, off + p * 11, none⟩ rfl _ hR1 ?_; clear hR1) | (go_at_call 33; refine hNx.mono ?_; rintro e w2 ⟨v, rfl, hs2, k2, hn2⟩; obtain ⟨a2, cap2, rfl, hs2⟩ := hs2))
        clear hNx
        have B1 : B < (w.setCell ⟨B, 1 + p, none⟩ (.int .i64 (-1))).heap.size := World.block_lt_of_cell? _ ⟨B, 0, none⟩ hb1.s
        have hn2' : ∀ b off, a2 = some ⟨b, off, none⟩ → b ≠ B := fun b off e => by have := hn2 _ _ _ rfl b off e; omega
        have hfr2 : FrG l.length (nx l) B (.slice (some ⟨b, off, none⟩) l.length cap) (fun i => if i = p then -1 else L i) (fun i => if i = p then -1 else L i) w2 w2 := ⟨hfr1.b.keep k2 (fun e => e), Keeps.refl _ _, hfr1.kn, fun _ _ e => e, fun _ _ e => e⟩
        have hl2 := hl1.keep k2
        have K2 : Keeps (fun k => k = B) w w2 := k1.trans (k2.mono (fun _ _ e => e.elim))
        clear hfr1 hb1 k1 k2 hn2 B1 c0 cp zp hl hl1 hb hc
        go_loopw [7, 45] (fun lv iv Wr => ∃ k m : Nat, lv = .int .i64 (m : Int) ∧ iv = .int .i64 (k : Int) ∧ LpR l.length (nx l) B (.slice (some ⟨b, off, none⟩) l.length cap) (fun i => if i = p then -1 else L i) w2 Wr (ns.map Int.toNat) k m) (fun _ iv _ => ns.length - (intOf iv).toNat)
        case atStart => exact ⟨0, 0, rfl, rfl, ⟨_, hfr2⟩, ⟨fun q hq => by simp at hq, .inl rfl⟩, Nat.zero_le _⟩
        case round =>
          obtain ⟨k, m, rfl, rfl, HL⟩ := hrel
          obtain ⟨⟨Lr, hfr⟩, hfar, hkl⟩ := HL
          rw [List.length_map] at hkl
          by_cases hlk : k < ns.length
          · have hltI : decide ((k : Int) < (ns.length : Int)) = true := by simp; omega
            have hltJ : (k : Int) < (ns.length : Int) := by omega
            have hk0 : (0 : Int) ≤ (k : Int) := by omega
            obtain ⟨x, hx⟩ : ∃ x, ns[k]? = some x := ⟨ns[k], by simp [hlk]⟩
            obtain ⟨y, rfl, hy⟩ := hnk x (List.mem_of_getElem? hx)
            obtain ⟨b2, o2, rfl, hcl⟩ := hs2 k _ hx
            have hcl' := hfr.k.cell hcl (hn2' b2 o2 rfl)
            have hyk : (ns.map Int.toNat)[k]? = some y := by rw [List.getElem?_map, hx]; rfl
            have hym : y ∈ nx l p := by rw [hys.out]; exact List.mem_of_getElem? hyk
            have hpZ := hz p hlt hL0
            have hZl := List.length_erase_of_mem hpZ
            have hZp := List.length_pos_of_mem hpZ
            have hrec := ih (mm - 1) (by omega) (w := wr) (p := y) (L := Lr) (Z.erase p) (by omega) (fun q hq e => by
              have e1 := hfr.o q hq e
              by_cases eq : q = p
              · rw [if_pos eq] at e1; omega
              · rw [if_neg eq] at e1
                exact (List.mem_erase_of_ne eq).2 (hz q hq e1)) (fun i hi => by
              obtain ⟨b', off', e, hc⟩ := hl2 i hi
              exact ⟨b', off', e, fun j v hv => hfr.k.cell (hc j v hv) (hB b' off' e)⟩) hfr.b hfr.kn hy (fun q hq e => by
              have e1 := hfr.m q hq e
              by_cases eq : q = p
              · subst eq; exact ⟨0, hlt, y, hym, rfl⟩
              · rw [if_neg eq] at e1
                obtain ⟨k', hk'⟩ := hway q hq e1
                have hs : Wk l.length (nx l) 1 p y := ⟨hlt, y, hym, rfl⟩
                exact ⟨k' + 1, hk'.trans hs⟩) (by
              obtain ⟨i, hi⟩ := hre
              have hs : Wk l.length (nx l) 1 p y := ⟨hlt, y, hym, rfl⟩
              exact ⟨i + 1, hi.trans hs⟩)
            have hFr := hfr.k
            clear ih hcl hz hpZ hZl hZp hway hkn hl2 hZ hcan
            go_wp2_with fail
            refine hrec.mono ?_
            intro e w4 hP
            rcases hP with ⟨h, rfl, hH, L4, hf4⟩ | ⟨x, rfl, hC, k4⟩
            · have hfn := hfar.next hyk hH
              have hle := hH.le
              clear hrec
              by_cases hmh : m < h
              · rw [if_pos hmh] at hfn
                have hm1 : decide ((m : Int) < (h : Int)) = true := by simp; omega
                have hm2 : (m : Int) < (h : Int) := by omega
                go_wp2_with fail
                go_roundw
                case rel => exact ⟨k + 1, h, rfl, by go_num, ⟨_, hfr.trans hf4⟩, hfn, by rw [List.length_map]; omega⟩
                case measure => simp [intOf]; omega
              · rw [if_neg hmh] at hfn
                have hm1 : decide ((m : Int) < (h : Int)) = false := by simp; omega
                go_wp2_with fail
                go_roundw
                case rel => exact ⟨k + 1, m, rfl, by go_num, ⟨_, hfr.trans hf4⟩, hfn, by rw [List.length_map]; omega⟩
                case measure => simp [intOf]; omega
            · clear hrec
              go_wp2_with fail
              go_ret2
              exact .inr ⟨_, rfl, hC, (K2.trans hFr).trans k4⟩
          · obtain rfl : k = ns.length := by omega
            have hltI : decide ((ns.length : Int) < (ns.length : Int)) = false := by simp
            have hfa : Far l.length (nx l) (nx l p) (nx l p).length m := by rw [hys.out, List.length_map]; exact hfar
            unfold Far at hfa
            rw [List.take_length] at hfa
            have hHt := Ht.mk hlt hfa.1 hfa.2
            have hle := hHt.le
            have zq := hfr.b.z p (by omega)
            have cq := hfr.b.c p (by omega)
            have hbf := hfr.b.set (p := p) (by omega) (1 + (m : Int))
            clear ih hcan hfa
            go_wp2_with fail
            go_ret2
            refine .inl ⟨m + 1, ?_, hHt, (fun i => if i = p then 1 + (m : Int) else Lr i), hbf, (K2.trans hfr.k).setA (1 + p) _, fun i hi => ?_, fun i hi e => ?_, fun i hi e => ?_⟩
            · show Ending.returned (Value.tuple #[.int .i64 (1 + (m : Int)), .bool true]) = _
              rw [show (1 + (m : Int)) = ((m + 1 : Nat) : Int) by omega]
            · by_cases eq : i = p
              · subst eq
                right; right
                exact ⟨m + 1, by omega, by simp only [if_true]; omega, hHt⟩
              · simp only [if_neg eq]
                exact hfr.kn i hi
            · by_cases eq : i = p
              · simp only [if_pos eq] at e; omega
              · simp only [if_neg eq] at e
                have e1 := hfr.m i hi e
                rw [if_neg eq] at e1
                exact e1
            · by_cases eq : i = p
              · simp only [if_pos eq] at e; omega
              · simp only [if_neg eq] at e
                have e1 := hfr.o i hi e
                rw [if_neg eq] at e1
                exact e1
      · have hbn : (L p != 0) = true := by simpa using hL0
        rcases hkn p hlt with e | e | ⟨h, hp0, e, hH⟩
        · exact absurd e hL0
        · rw [e] at cp
          clear ih
          go_enter Tryd.func24, Tryd.ntmps24
          go_wp2
          go_ret2
          obtain ⟨k, hk⟩ := hway p hlt e
          obtain ⟨i, hi⟩ := hre
          exact .inr ⟨_, rfl, ⟨i, p, k, hlt, hi, hk⟩, Keeps.refl _ w⟩
        · rw [e] at cp
          clear ih
          have b1 : ((h : Int) != 0) = true := by simp <;> omega
          have b2 : ((h : Int) != -1) = true := by simp <;> omega
          have b3 : ((h : Int) == 0) = false := by simp <;> omega
          have b4 : ((h : Int) == -1) = false := by simp <;> omega
          go_enter Tryd.func24, Tryd.ntmps24
          go_wp2
          go_ret2
          exact .inl ⟨h, rfl, hH, L, hb, Keeps.refl _ w, hkn, fun _ _ e => e, fun _ _ e => e⟩
end Go.Proofs.YtclednbclgkdaaaDoor
