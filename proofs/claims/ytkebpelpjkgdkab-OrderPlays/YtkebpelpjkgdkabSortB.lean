import Derived.Test.YtkebpelpjkgdkabSortA
namespace Go.Proofs.Ytkebpelpjkgdkab
open Go.RowKit Go.Maps

theorem owns_mono' {w : World} {base base' : Nat} {e : TypeId} {size : Nat} {v : Value} {n : Nat} {xs : List Value} (h : w.ownsRow base e size v n xs) (hb : base' ≤ base) : w.ownsRow base' e size v n xs := by
  refine ⟨h.1, ?_⟩
  rcases h.2 with h0 | ⟨g, cap, cur, rfl, hg, rest⟩
  · exact .inl h0
  · exact .inr ⟨g, cap, cur, rfl, Nat.le_trans hb hg, rest⟩
theorem M0_nx (s : Nat) (k : Int) : nx M0 s k = s := nx_old (by simp [M0])
theorem perm_set {xs : List It} {x : It} (h : 0 < xs.length) : (ia xs 0 :: xs.set 0 x).Perm (x :: xs) := perm_set_cons xs 0 x h

theorem L.HS.any {w : World} {hb g cap : Nat} {xs : List It} {pm mb s : Nat} {M : Mp} (h : L.HS w hb g cap xs pm mb s M) : L.HS w hb g cap xs 0 0 0 M0 :=
  ⟨h.f0, h.z0, h.f1, h.f2, h.row, ⟨rfl, rfl, rfl, rfl⟩, h.gh, h.mg, h.num, h.small⟩

/-- What lowest holds behind some items. -/
structure Low (ks seen : List It) (n : Nat) (rest : List It) : Prop where
  perm : (ks ++ rest).Perm seen
  low : ∀ k ∈ ks, ∀ r ∈ rest, bef r k = false
  le : ks.length ≤ n
  all : ks.length < n → rest = []

theorem Low.put {ks seen rest ks' : List It} {n : Nat} {x : It} (h : Low ks seen n rest) (hlt : ks.length < n) (hp : ks'.Perm (ks ++ [x])) : Low ks' (seen ++ [x]) n rest := by
  have hr := h.all hlt
  subst hr
  refine ⟨?_, (fun _ _ r hr => by cases hr), by rw [hp.length_eq]; simp; omega, fun _ => rfl⟩
  simpa using hp.trans ((by simpa using h.perm : ks.Perm seen).append_right [x])
theorem Low.change {ks seen rest ks' : List It} {n : Nat} {x : It} (h : Low ks seen n rest) (h0 : 0 < ks.length) (hn : ks.length = n) (htop : ∀ k ∈ ks, bef (ia ks 0) k = false) (hx : bef x (ia ks 0) = true) (hp : ks'.Perm (ks.set 0 x)) : Low ks' (seen ++ [x]) n (rest ++ [ia ks 0]) := by
  have hps := perm_set (x := x) h0
  have hm0 : ia ks 0 ∈ ks := ia_mem h0
  have hmem : ∀ k ∈ ks', k = x ∨ k ∈ ks := fun k hk => by
    rcases List.mem_or_eq_of_mem_set (hp.mem_iff.1 hk) with h1 | h1
    · exact .inr h1
    · exact .inl h1
  refine ⟨?_, fun k hk r hr => ?_, by rw [hp.length_eq, List.length_set]; omega, fun hl => ?_⟩
  · have e1 : (ks' ++ (rest ++ [ia ks 0])).Perm (ia ks 0 :: ks.set 0 x ++ rest) := by
      have a1 : (ks' ++ (rest ++ [ia ks 0])).Perm ((rest ++ [ia ks 0]) ++ ks') := List.perm_append_comm
      have a2 : (ks' ++ (rest ++ [ia ks 0])).Perm (ks.set 0 x ++ (rest ++ [ia ks 0])) := hp.append_right _
      refine a2.trans ?_
      rw [← List.append_assoc]
      exact (List.perm_append_singleton _ _)
    have e2 : (ia ks 0 :: ks.set 0 x ++ rest).Perm (x :: ks ++ rest) := hps.append_right rest
    have e3 : (x :: ks ++ rest).Perm (x :: seen) := h.perm.cons x
    exact (e1.trans e2).trans (e3.trans (List.perm_append_singleton x seen).symm)
  · rcases List.mem_append.1 hr with hr | hr
    · rcases hmem k hk with rfl | hk
      · exact bef_lin.lift hx (h.low _ hm0 r hr)
      · exact h.low k hk r hr
    · simp at hr; subst hr
      rcases hmem k hk with rfl | hk
      · exact bef_lin.asym hx
      · exact htop k hk
  · rw [hp.length_eq, List.length_set] at hl; omega
theorem Low.pass {ks seen rest : List It} {n : Nat} {x : It} (h : Low ks seen n rest) (hn : ks.length = n) (htop : ∀ k ∈ ks, bef (ia ks 0) k = false) (hx : bef x (ia ks 0) = false) : Low ks (seen ++ [x]) n (rest ++ [x]) := by
  refine ⟨?_, fun k hk r hr => ?_, h.le, fun hl => by omega⟩
  · rw [← List.append_assoc]; exact h.perm.append_right [x]
  · rcases List.mem_append.1 hr with hr | hr
    · exact h.low k hk r hr
    · simp at hr; subst hr; exact bef_lin.trans hx (htop k hk)

theorem take_snoc' {xs : List It} {i : Nat} (hi : i < xs.length) : xs.take (i + 1) = xs.take i ++ [ia xs i] := by
  rw [← List.take_append_getElem hi, ia_get hi]

set_option maxHeartbeats 3200000 in
set_option maxRecDepth 1000000 in
/-- The first n items are kept. -/
theorem lowest_any {w : World} {a : Option Addr} {items : List It} (hi : IL w a items) (hl : items.length * 16 ≤ 140737488355328) (hnum : ∀ x ∈ items, I64 x.1 ∧ I64 x.2) (cap n : Nat) (hn : 0 < n) (hnl : n ≤ items.length) :
    Calls Try.prog 36 #[.slice a items.length cap, .int .i64 n] w fun e w' => e = .returned (.pointer (some ⟨w.heap.size, 0, none⟩)) ∧ Keeps (fun _ => False) w w' ∧
      ∃ g cg ks, L.HS w' w.heap.size g cg ks 0 0 0 M0 ∧ w.heap.size < g ∧ Heap feb ks ∧ ∃ rest, Low ks items n rest := by
  have HI : Hid (IL w a items) := hi
  have HN : Hid (∀ x ∈ items, I64 x.1 ∧ I64 x.2) := hnum
  clear hi hnum
  have K0 : Keeps (fun _ => False) w (w.alloc (.cells #[.slice none 0 0, .func (.func 48) #[] #[], .func (.func 49) #[] #[]] 55)) := (Keeps.refl _ w).alloc _
  have hv0 : L.HV (w.alloc (.cells #[.slice none 0 0, .func (.func 48) #[] #[], .func (.func 49) #[] #[]] 55)) w.heap.size (.slice none 0 0) [] 0 0 0 M0 :=
    ⟨by simp, by simp, by simp, by simp, World.ownsRow_nil _ _ _ _, ⟨rfl, rfl, rfl, rfl⟩, (fun g hg => by cases hg), trivial, (fun x hx => by cases hx), by simp⟩
  have fullM : ∀ l : List It, Full M0 l := fun l x _ => by simp [M0]
  have smallM : ∀ k : Int, nx M0 0 k < maxLen := fun k => by rw [M0_nx]; decide
  go_enter Try.func36, Try.ntmps36
  go_wp2_with fail
  go_loopw [12] (fun iv wr => ∃ (i : Nat) (v : Value) (ks rest : List It), i ≤ items.length ∧ iv = .int .i64 i ∧ L.HV wr w.heap.size v ks 0 0 0 M0 ∧ Heap feb ks ∧ Low ks (items.take i) n rest ∧ Keeps (fun _ => False) w wr ∧ (∀ g, v.ownBlock = some g → w.heap.size < g)) (fun iv _ => items.length - (intOf iv).toNat)
  case atStart => exact ⟨0, _, [], [], Nat.zero_le _, rfl, hv0, (fun i h0 h1 => by simp at h1), ⟨by simp, (fun _ hk => by cases hk), by simp, fun _ => rfl⟩, K0, (fun g hg => by cases hg)⟩
  case round =>
    obtain ⟨i, v, ks, rest, hil, rfl, hv, hH, hlow, hk, hg⟩ := hrel
    by_cases hlt : i < items.length
    · obtain ⟨b, off, rfl, hb, hc⟩ := HI.out.some (by omega)
      have hiI : (i : Int) < (items.length : Int) := by omega
      have c0 := hk.cell (hc i hlt).1 (fun e => e)
      have c1 := hk.cell (hc i hlt).2 (fun e => e)
      have x64 := HN.out _ (ia_mem hlt)
      have HT : Hid (items.take (i + 1) = items.take i ++ [ia items i]) := take_snoc' hlt
      obtain ⟨x, hx⟩ : ∃ x, Hid (ia items i = x) := ⟨_, rfl⟩
      rw [hx.out] at c0 c1 x64
      have HT' : Hid (items.take (i + 1) = items.take i ++ [x]) := by show _ = _; rw [HT.out, hx.out]
      clear hc HT
      obtain ⟨w1, hw1⟩ : ∃ w1, w1 = wr.alloc (.cells #[.int .i64 x.1, .int .i64 x.2] 32) := ⟨_, rfl⟩
      have K1 : Keeps (fun _ => False) wr w1 := by rw [hw1]; exact (Keeps.refl _ wr).alloc _
      have F1 : (wr.alloc (.cells #[.int .i64 x.1, .int .i64 x.2] 32)).cell? ⟨w.heap.size, 0, none⟩ = some v := by rw [← hw1]; exact K1.cell hv.f0 (fun e => e)
      have b0 : w1.cell? ⟨wr.heap.size, 0, none⟩ = some (.int .i64 x.1) := by rw [hw1]; simp
      have b1 : w1.cell? ⟨wr.heap.size, 1, none⟩ = some (.int .i64 x.2) := by rw [hw1]; simp
      have b0' : (wr.alloc (.cells #[.int .i64 x.1, .int .i64 x.2] 32)).cell? ⟨wr.heap.size, 0, none⟩ = some (.int .i64 x.1) := by rw [← hw1]; exact b0
      have b1' : (wr.alloc (.cells #[.int .i64 x.1, .int .i64 x.2] 32)).cell? ⟨wr.heap.size, 1, none⟩ = some (.int .i64 x.2) := by rw [← hw1]; exact b1
      have hv1 := hv.new K1
      obtain ⟨av, cv, ev, _, _⟩ := owns_il hv.row rfl
      have hkl := hlow.le
      by_cases hln : ks.length < n
      · have hlI : (ks.length : Int) < (n : Int) := by omega
        have hput := L.put_any hv1 (fullM ks) hH x x64 (by omega) (smallM _)
        subst ev
        go_wp2_with fail
        rw [← hw1]
        clear hw1 F1 b0' b1'
        refine hput.mono ?_
        rintro e w2 ⟨rfl, g, cg, ys, N, h2, hgn, k2, m2, hh2, _⟩
        go_wp2_with fail
        go_roundw
        case rel =>
          have hsz := hk.size
          have hsz1 := K1.size
          refine ⟨i + 1, _, ys, rest, by omega, by go_num, h2.any.hv, hh2, by rw [HT'.out]; exact hlow.put hln m2.1, ?_, fun g' e => ?_⟩
          · exact ((hk.trans K1).trans' k2 (fun _ _ e => e) (fun j hj e => by
              rcases e with e | e | e
              · have := hg j e; omega
              · omega
              · exact e.2.elim))
          · cases e
            exact hgn.elim (fun e => hg _ e) (fun e => by have := World.block_lt_of_cell? _ _ hv.f0; show w.heap.size < g; have h9 : w.heap.size < wr.heap.size := this; omega)
        case measure => simp [intOf]; omega
      · have hlI : ¬ (ks.length : Int) < (n : Int) := by omega
        obtain ⟨g, cg, ev2, hs1⟩ := hv1.hs (by omega)
        have htop : ∀ k ∈ ks, bef (ia ks 0) k = false := fun k hk' => by
          obtain ⟨j, hj, rfl⟩ := List.getElem_of_mem hk'
          have := hH.top feb_lin j hj
          rw [ia_get hj] at this; exact this
        have hkn : ks.length = n := by omega
        have hgw := hg g (by rw [ev2]; rfl)
        have t0 := hs1.c0 (i := 0) (by omega)
        have t1 := hs1.c1 (i := 0) (by omega)
        have f0 := hs1.f0
        have k0I : (0 : Int) < (ks.length : Int) := by omega
        have k0n : ¬ ks = [] := fun e => by rw [e] at k0I; simp at k0I
        simp only [Nat.zero_mul, Nat.zero_add] at t0 t1
        obtain ⟨tp, htp⟩ : ∃ tp, Hid (ia ks 0 = tp) := ⟨_, rfl⟩
        rw [htp.out] at t0 t1
        have HKN : Hid (ks.length = n) := hkn
        subst ev2
        clear hkn ev
        go_wp2_with fail
        rw [← hw1]
        clear hw1 F1 b0' b1'
        have hNE : Nonempty (KS w1) := ⟨⟨w1, Keeps.refl _ w1⟩⟩
        have B0 := ks_cell b0
        have B1 := ks_cell b1
        have G0 := ks_cell f0
        have T0 := ks_cell t0
        have T1 := ks_cell t1
        refine wp_region_ks (by kernel_rfl) (by kernel_rfl) ?_
        repeat (go_big_quiet_step ((go_at_call 45; refine (before_any _ x tp).mono ?_; rintro e w2 ⟨rfl, k2⟩; exact ⟨rfl, ⟨_, Keeps.trans (KS.property _) k2⟩, rfl⟩)))
        refine wpQuiet_nil ?_
        rintro _ ⟨u, rfl⟩
        have kd := u.property
        have q0 := B0 u
        have q1 := B1 u
        clear B0 B1 G0 T0 T1
        generalize u.val = w2 at kd q0 q1 ⊢
        have hs2 := hs1.new kd
        cases hb' : bef x tp with
        | false =>
          go_wp2_with fail
          go_roundw
          case rel => exact ⟨i + 1, _, ks, rest ++ [x], by omega, by go_num, hs2.hv, hH, by rw [HT'.out]; exact hlow.pass HKN.out htop (by rw [htp.out]; exact hb'), (hk.trans K1).trans kd, fun g' e => by cases e; exact hgw⟩
          case measure => simp [intOf]; omega
        | true =>
          have hch := L.change_any hs2 (p := 0) (by omega) (fullM ks) hH x x64 (by simp [M0])
          clear hs1 t0 t1 f0
          go_wp2_with fail
          refine hch.mono ?_
          rintro e w3 ⟨rfl, ys, N, h3, k3, m3, hh3⟩
          go_wp2_with fail
          go_roundw
          case rel =>
            refine ⟨i + 1, _, ys, rest ++ [ia ks 0], by omega, by go_num, h3.any.hv, hh3, by rw [HT'.out]; exact hlow.change (by omega) HKN.out htop (by rw [htp.out]; exact hb') m3.1, ?_, fun g' e => by cases e; exact hgw⟩
            exact ((hk.trans K1).trans kd).trans' k3 (fun _ _ e => e) (fun j hj e => by have := e.1; omega)
          case measure => simp [intOf]; omega
    · have hiI : ¬ (i : Int) < (items.length : Int) := by omega
      have hfin : items.take i = items := List.take_of_length_le (by omega)
      rw [hfin] at hlow
      have hkl : 0 < ks.length := by
        rcases Nat.lt_or_ge ks.length n with h1 | h1
        · have e := hlow.perm.length_eq
          rw [hlow.all h1] at e
          simp at e; omega
        · omega
      obtain ⟨g, cg, rfl, hs⟩ := hv.hs hkl
      go_wp2
      go_ret
      exact ⟨rfl, hk, g, cg, ks, hs, hg g rfl, hH, rest, hlow⟩

set_option maxHeartbeats 1600000 in
set_option maxRecDepth 1000000 in
/-- Firsts. -/
theorem firsts_any {w : World} {a : Option Addr} {items : List It} (hi : IL w a items) (hl : items.length * 16 ≤ 140737488355328) (hnum : ∀ x ∈ items, I64 x.1 ∧ I64 x.2) (cap : Nat) (n : Int) :
    Calls Try.prog 21 #[.slice a items.length cap, .int .i64 n] w fun e w' => ∃ v, e = .returned v ∧ w'.ownsRow w.heap.size 32 2 v ((srt items).take n.toNat).length (flat ((srt items).take n.toNat)) ∧ Keeps (fun _ => False) w w' := by
  obtain ⟨T, hT⟩ : ∃ T, Hid ((srt items).take n.toNat = T) := ⟨_, rfl⟩
  rw [hT.out]
  by_cases h1 : n < 1
  · have h2 : ¬ (items.length : Int) < n := by omega
    have e : T = [] := by rw [← hT.out, show n.toNat = 0 by omega]; simp
    subst e
    go_enter Try.func21, Try.ntmps21
    go_wp2
    go_ret
    exact ⟨_, rfl, World.ownsRow_nil _ _ _ _, Keeps.refl _ _⟩
  · by_cases h3 : items.length = 0
    · have h2 : (items.length : Int) < n := by omega
      have h4 : (items.length : Int) < 1 := by omega
      have e : T = [] := by
        have e0 : srt items = [] := List.eq_nil_of_length_eq_zero (by rw [srt_length]; exact h3)
        rw [← hT.out, e0]; simp
      subst e
      have H3 : Hid (items.length = 0) := h3
      clear h3
      go_enter Try.func21, Try.ntmps21
      go_wp2
      go_ret
      exact ⟨_, rfl, World.ownsRow_nil _ _ _ _, Keeps.refl _ _⟩
    · have fin : ∀ (m : Nat), 0 < m → m ≤ items.length → T = (srt items).take m → ∀ {w1 : World} {g cg : Nat} {ks rest : List It}, Keeps (fun _ => False) w w1 → L.HS w1 w.heap.size g cg ks 0 0 0 M0 → w.heap.size < g → Heap feb ks → Low ks items m rest →
          Calls Try.prog 35 #[.pointer (some ⟨w.heap.size, 0, none⟩)] w1 fun e w' => ∃ v, e = .returned v ∧ w'.ownsRow w.heap.size 32 2 v T.length (flat T) ∧ Keeps (fun _ => False) w w' := by
        intro m hm hml hTm w1 g cg ks rest hk hs hg hH hlow
        refine (drain_any hs (fun x _ => by simp [M0]) hH).mono ?_
        rintro e w2 ⟨rfl, hown, k2⟩
        have hkl : ks.length = m := by
          rcases Nat.lt_or_ge ks.length m with h1 | h1
          · have e := hlow.perm.length_eq
            rw [hlow.all h1] at e
            simp at e; omega
          · have := hlow.le; omega
        have e : T = srt ks := by rw [hTm, srt_take hlow.perm hlow.low, hkl]
        rw [e, srt_length]
        exact ⟨_, rfl, owns_mono' hown hk.size, hk.trans' k2 (fun _ _ e => e) (fun i hi e => by rcases e with e | e <;> omega)⟩
      by_cases h2 : (items.length : Int) < n
      · have h4 : ¬ (items.length : Int) < 1 := by omega
        go_enter Try.func21, Try.ntmps21
        go_wp2_with fail
        refine (lowest_any hi hl hnum cap items.length (by omega) (Nat.le_refl _)).mono ?_
        rintro e w1 ⟨rfl, hk, g, cg, ks, hs, hg, hH, rest, hlow⟩
        go_wp2_with fail
        refine (fin items.length (by omega) (Nat.le_refl _) (by rw [← hT.out, List.take_of_length_le (by rw [srt_length]; omega), List.take_of_length_le (by rw [srt_length]; omega)]) hk hs hg hH hlow).mono ?_
        rintro e w2 ⟨v, rfl, ho, k2⟩
        go_wp2
        go_ret
        exact ⟨_, rfl, ho, k2⟩
      · obtain ⟨m, rfl⟩ : ∃ m : Nat, n = m := ⟨n.toNat, by omega⟩
        go_enter Try.func21, Try.ntmps21
        go_wp2_with fail
        refine (lowest_any hi hl hnum cap m (by omega) (by omega)).mono ?_
        rintro e w1 ⟨rfl, hk, g, cg, ks, hs, hg, hH, rest, hlow⟩
        go_wp2_with fail
        refine (fin m (by omega) (by omega) (by rw [← hT.out]; simp) hk hs hg hH hlow).mono ?_
        rintro e w2 ⟨v, rfl, ho, k2⟩
        go_wp2
        go_ret
        exact ⟨_, rfl, ho, k2⟩

set_option maxHeartbeats 800000 in
set_option maxRecDepth 1000000 in
/-- Sort. -/
theorem sort_any {w : World} {a : Option Addr} {items : List It} (hi : IL w a items) (hl : items.length * 16 ≤ 140737488355328) (hnum : ∀ x ∈ items, I64 x.1 ∧ I64 x.2) (cap : Nat) :
    Calls Try.prog 20 #[.slice a items.length cap] w fun e w' => ∃ v, e = .returned v ∧ w'.ownsRow w.heap.size 32 2 v (srt items).length (flat (srt items)) ∧ Keeps (fun _ => False) w w' := by
  have hf := firsts_any hi hl hnum cap items.length
  rw [List.take_of_length_le (by rw [srt_length]; simp)] at hf
  go_enter Try.func20, Try.ntmps20
  go_wp2_with fail
  refine hf.mono ?_
  rintro e w1 ⟨v, rfl, ho, k⟩
  go_wp2
  go_ret
  exact ⟨_, rfl, ho, k⟩

end Go.Proofs.Ytkebpelpjkgdkab
