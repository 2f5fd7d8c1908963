import Derived.Test.YtagplkgjdaojnaaTabR
namespace Go.Proofs.Ytagplkgjdaojnaa
open Go.RowKit
attribute [local go_sem] Oper.semAt_some

theorem fnd_first {rs : List Rd} {k : Int} {i : Nat} {e : En} (he : (es rs)[i]? = some e) (hk : e.ob = k) (hno : ∀ p x, p < i → (es rs)[p]? = some x → x.ob ≠ k) : fnd rs k = some e := by
  have hl : i < (es rs).length := (List.getElem?_eq_some_iff.1 he).1
  have hp : pl (es rs) k = some i := by
    unfold pl
    rw [List.findIdx?_eq_some_iff_getElem]
    refine ⟨hl, by have := (List.getElem?_eq_some_iff.1 he).2; rw [this]; simpa using hk, fun j hj => ?_⟩
    have := hno j ((es rs)[j]'(by omega)) hj (by simp)
    simpa using this
  unfold fnd
  rw [hp]
  exact he
theorem fnd_none {rs : List Rd} {k : Int} (hno : ∀ p x, p < (es rs).length → (es rs)[p]? = some x → x.ob ≠ k) : fnd rs k = none := by
  have hp : pl (es rs) k = none := by
    unfold pl
    rw [List.findIdx?_eq_none_iff]
    intro x hx
    obtain ⟨p, hp⟩ := List.getElem?_of_mem hx
    have := hno p x (List.getElem?_eq_some_iff.1 hp).1 hp
    simpa using this
  unfold fnd
  rw [hp]
  rfl

set_option maxHeartbeats 3200000 in
set_option maxRecDepth 1000000 in
theorem rfind_any {w : World} {rb : Nat} {vr : Value} {rs : List Rd} (h : RV w rb vr rs) (hn : rs.length ≤ 4398046511200) (k : Int) : Calls Try.prog 31 #[.pointer (some ⟨rb, 0, none⟩), .int .i64 k] w fun e w' => e = .returned (.tuple #[evo (fnd rs k), .int .i64 (erz 71 (fnd rs k))]) ∧ Keeps (fun _ => False) w w' := by
  have CE := fun ob => rentries_any (h.new ((Keeps.refl (fun _ => False) w).alloc ob)) hn
  have hle := es_len rs
  clear h
  obtain ⟨L, hL⟩ : ∃ L, Hid (L = (es rs).length) := ⟨_, rfl⟩
  rw [← hL.out] at CE hle
  have hL9 : L ≤ 4398046511200 := by omega
  obtain ⟨F, hF⟩ : ∃ F, Hid (F = fnd rs k) := ⟨_, rfl⟩
  rw [← hF.out]
  go_enter Try.func31, Try.ntmps31
  go_wp2_with fail
  refine (CE _).mono ?_
  rintro e w2 ⟨a, c, rfl, ho, k2⟩
  clear CE
  have K2 : Keeps (fun _ => False) w w2 := ((Keeps.refl _ w).alloc _).trans k2
  have y0 := k2.cell (p := ⟨w.heap.size, 0, none⟩) (v := .int .i64 0) (by simp) (fun e => e)
  have y1 := k2.cell (p := ⟨w.heap.size, 1, none⟩) (v := .int .i64 0) (by simp) (fun e => e)
  have y2 := k2.cell (p := ⟨w.heap.size, 2, none⟩) (v := .int .i64 0) (by simp) (fun e => e)
  have z0 := (k2.frozen (p := ⟨w.heap.size, 0, none⟩) (by simp) (fun e => e)).trans (show _ = false by simp)
  have z1 := (k2.frozen (p := ⟨w.heap.size, 1, none⟩) (by simp) (fun e => e)).trans (show _ = false by simp)
  have z2 := (k2.frozen (p := ⟨w.heap.size, 2, none⟩) (by simp) (fun e => e)).trans (show _ = false by simp)
  clear k2
  go_wp2_with fail
  go_loopw [7] (fun iv W => ∃ i : Nat, iv = .int .i64 (i : Int) ∧ i ≤ L ∧ Hid (∀ p x, p < i → (es rs)[p]? = some x → x.ob ≠ k) ∧ w2 = W) (fun iv _ => L - (intOf iv).toNat)
  case atStart => exact ⟨0, rfl, Nat.zero_le _, (fun p x hp => absurd hp (by omega)), rfl⟩
  case round =>
    obtain ⟨i, rfl, hiL, hno, hW⟩ := hrel
    rw [← hW]
    clear hW
    have hi0 : (0 : Int) ≤ (i : Int) := by omega
    by_cases hlt : i < L
    · have hltI : (i : Int) < (L : Int) := by omega
      obtain ⟨e, he⟩ : ∃ e, Hid ((es rs)[i]? = some e) := ⟨(es rs)[i]'(by rw [← hL.out]; exact hlt), by show _ = _; simp⟩
      obtain ⟨g, rfl⟩ : ∃ g, a = some ⟨g, 0, none⟩ := by
        rcases ho.2 with ⟨_, e0⟩ | ⟨g, cp, cur, e0, _⟩
        · omega
        · cases e0; exact ⟨g, rfl⟩
      obtain ⟨c0, c1, c2⟩ := owns_en ho rfl he.out
      simp only at c0 c1 c2
      by_cases hk : e.ob = k
      · have hf : Hid (F = some e) := by show _ = _; rw [hF.out]; exact fnd_first he.out hk hno.out
        have hkb : (e.ob == k) = true := by simpa using hk
        obtain ⟨eo, heo⟩ : ∃ eo, Hid (eo = e.ob) := ⟨_, rfl⟩
        rw [← heo.out] at c0 hkb
        clear hk hno ho
        go_wp2_with fail
        refine bodyPost_ret (v := .tuple #[.agg #[.int .i64 eo, .int .i64 e.ver, .int .i64 (e.ord : Int)], .int .i64 0]) (by rw [results_cell_tmp rfl]; go_simp) rfl ⟨by rw [hf.out, heo.out]; rfl, ?_⟩
        exact K2.trans' (((keeps_set w2 w.heap.size 0 _).trans (keeps_set _ w.heap.size 1 _)).trans (keeps_set _ w.heap.size 2 _)) (fun _ _ e => e) (fun i hi e => by omega)
      · have hkb : (e.ob == k) = false := by simpa using hk
        have HNO : Hid (∀ p x, p < i + 1 → (es rs)[p]? = some x → x.ob ≠ k) := fun p x hp hx => by
          by_cases hpi : p < i
          · exact hno.out p x hpi hx
          · obtain rfl : p = i := by omega
            rw [he.out] at hx
            cases hx
            exact hk
        obtain ⟨eo, heo⟩ : ∃ eo, Hid (eo = e.ob) := ⟨_, rfl⟩
        rw [← heo.out] at c0 hkb
        clear hk hno ho
        go_wp2_with fail
        go_roundw
        case rel => exact ⟨i + 1, by go_num, by omega, HNO, trivial⟩
        case measure => simp [intOf]; omega
    · have hI : ¬ (i : Int) < (L : Int) := by omega
      have hf : Hid (F = none) := by show _ = _; rw [hF.out]; exact fnd_none (fun p x hp => hno.out p x (by rw [← hL.out] at hp; omega))
      clear hno ho
      go_wp2_with fail
      refine bodyPost_ret (v := .tuple #[.agg #[.int .i64 0, .int .i64 0, .int .i64 0], .int .i64 71]) (by rw [results_cell_tmp rfl]; go_simp) rfl ⟨by rw [hf.out]; rfl, ?_⟩
      exact K2.trans' (((keeps_set w2 w.heap.size 0 _).trans (keeps_set _ w.heap.size 1 _)).trans (keeps_set _ w.heap.size 2 _)) (fun _ _ e => e) (fun i hi e => by omega)

set_option maxHeartbeats 1600000 in
set_option maxRecDepth 1000000 in
theorem rlen_any {w : World} {rb : Nat} {vr : Value} {rs : List Rd} (h : RV w rb vr rs) (hn : rs.length ≤ 4398046511200) : Calls Try.prog 36 #[.pointer (some ⟨rb, 0, none⟩)] w fun e w' => e = .returned (.int .i64 ((es rs).length : Int)) ∧ Keeps (fun _ => False) w w' := by
  have CE := rentries_any h hn
  clear h
  generalize (es rs).length = L at *
  go_enter Try.func36, Try.ntmps36
  go_wp2_with fail
  refine CE.mono ?_
  rintro e w2 ⟨a, c, rfl, ho, k2⟩
  go_wp2_with fail
  go_ret
  exact ⟨rfl, k2⟩

set_option maxHeartbeats 1600000 in
set_option maxRecDepth 1000000 in
theorem rat_any {w : World} {rb : Nat} {vr : Value} {rs : List Rd} (h : RV w rb vr rs) (hn : rs.length ≤ 4398046511200) (k : Int) : Calls Try.prog 33 #[.pointer (some ⟨rb, 0, none⟩), .int .i64 k] w fun e w' => e = .returned (.tuple #[evo (atp rs k), .int .i64 (erz 72 (atp rs k))]) ∧ Keeps (fun _ => False) w w' := by
  have CE := fun ob => rentries_any (h.new ((Keeps.refl (fun _ => False) w).alloc ob)) hn
  clear h
  obtain ⟨L, hL⟩ : ∃ L, Hid (L = (es rs).length) := ⟨_, rfl⟩
  rw [← hL.out] at CE
  have hatp : Hid (atp rs k = if k < 0 ∨ (L : Int) ≤ k then none else (es rs)[k.toNat]?) := by show _ = _; unfold atp; rw [hL.out]
  obtain ⟨F, hF⟩ : ∃ F, Hid (F = atp rs k) := ⟨_, rfl⟩
  rw [← hF.out] at hatp ⊢
  go_enter Try.func33, Try.ntmps33
  go_wp2_with fail
  refine (CE _).mono ?_
  rintro e w2 ⟨a, c, rfl, ho, k2⟩
  clear CE
  have K2 : Keeps (fun _ => False) w w2 := ((Keeps.refl _ w).alloc _).trans k2
  have y0 := k2.cell (p := ⟨w.heap.size, 0, none⟩) (v := .int .i64 0) (by simp) (fun e => e)
  have y1 := k2.cell (p := ⟨w.heap.size, 1, none⟩) (v := .int .i64 0) (by simp) (fun e => e)
  have y2 := k2.cell (p := ⟨w.heap.size, 2, none⟩) (v := .int .i64 0) (by simp) (fun e => e)
  have z0 := (k2.frozen (p := ⟨w.heap.size, 0, none⟩) (by simp) (fun e => e)).trans (show _ = false by simp)
  have z1 := (k2.frozen (p := ⟨w.heap.size, 1, none⟩) (by simp) (fun e => e)).trans (show _ = false by simp)
  have z2 := (k2.frozen (p := ⟨w.heap.size, 2, none⟩) (by simp) (fun e => e)).trans (show _ = false by simp)
  clear k2
  by_cases h1 : k < 0
  · have hf : Hid (F = none) := by show _ = _; rw [hatp.out, if_pos (.inl h1)]
    clear ho hatp
    go_wp2_with fail
    refine bodyPost_ret (v := .tuple #[.agg #[.int .i64 0, .int .i64 0, .int .i64 0], .int .i64 72]) (by rw [results_cell_tmp rfl]; go_simp) rfl ⟨by rw [hf.out]; rfl, ?_⟩
    exact K2.trans' (((keeps_set w2 w.heap.size 0 _).trans (keeps_set _ w.heap.size 1 _)).trans (keeps_set _ w.heap.size 2 _)) (fun _ _ e => e) (fun i hi e => by omega)
  · by_cases h2 : (L : Int) ≤ k
    · have hf : Hid (F = none) := by show _ = _; rw [hatp.out, if_pos (.inr h2)]
      clear ho hatp
      go_wp2_with fail
      refine bodyPost_ret (v := .tuple #[.agg #[.int .i64 0, .int .i64 0, .int .i64 0], .int .i64 72]) (by rw [results_cell_tmp rfl]; go_simp) rfl ⟨by rw [hf.out]; rfl, ?_⟩
      exact K2.trans' (((keeps_set w2 w.heap.size 0 _).trans (keeps_set _ w.heap.size 1 _)).trans (keeps_set _ w.heap.size 2 _)) (fun _ _ e => e) (fun i hi e => by omega)
    · obtain ⟨j, rfl⟩ : ∃ j : Nat, k = (j : Int) := ⟨k.toNat, by omega⟩
      obtain ⟨e, he⟩ : ∃ e, (es rs)[j]? = some e := ⟨(es rs)[j]'(by rw [← hL.out]; omega), by simp⟩
      have hf : Hid (F = some e) := by show _ = _; rw [hatp.out, if_neg (by omega), Int.toNat_natCast, he]
      obtain ⟨g, rfl⟩ : ∃ g, a = some ⟨g, 0, none⟩ := by
        rcases ho.2 with ⟨_, e0⟩ | ⟨g, cp, cur, e0, _⟩
        · omega
        · cases e0; exact ⟨g, rfl⟩
      obtain ⟨c0, c1, c2⟩ := owns_en ho rfl he
      simp only at c0 c1 c2
      have h3 : (j : Int) < (L : Int) := by omega
      have h4 : (0 : Int) ≤ (j : Int) := by omega
      clear ho he h1 h2 hatp
      go_wp2_with fail
      refine bodyPost_ret (v := .tuple #[.agg #[.int .i64 e.ob, .int .i64 e.ver, .int .i64 (e.ord : Int)], .int .i64 0]) (by rw [results_cell_tmp rfl]; go_simp) rfl ⟨by rw [hf.out]; rfl, ?_⟩
      exact K2.trans' (((keeps_set w2 w.heap.size 0 _).trans (keeps_set _ w.heap.size 1 _)).trans (keeps_set _ w.heap.size 2 _)) (fun _ _ e => e) (fun i hi e => by omega)
end Go.Proofs.Ytagplkgjdaojnaa
