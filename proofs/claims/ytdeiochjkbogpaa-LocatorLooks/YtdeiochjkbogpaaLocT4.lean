import Derived.Test.YtdeiochjkbogpaaLocT0
namespace Go.Proofs.Ytdeiochjkbogpaa
open Go.RowKit
section
variable {w w' : World} {ρ ρ' : Nat → Nat} {u j q rb wb mb : Nat} {s : Ws} {m : Mm} {k : Nat} {S : Nat → Prop} {B : Nat} {o : Oq}
set_option maxHeartbeats 3200000 in
set_option maxRecDepth 1000000 in
theorem does_13_true (h : Rs w ρ u j q rb wb mb s m k) (hk : k ≤ 2499999999999) (a b c : Int) (v : Vl) :
    Calls Try.prog 21 #[.pointer (some ⟨rb, 0, none⟩), opv ⟨13, a, b, c, v, true⟩] w fun e w' => ∃ er d n, e = .returned (.agg #[.int .i64 er, .bool d, .int .i64 n]) ∧ Done w ρ u j q rb wb mb s m k ⟨13, a, b, c, v, true⟩ w' er d n := by
  obtain ⟨w0, hw0⟩ : ∃ w0, w0 = (w.alloc (.cells #[.int .i64 13, .int .i64 a, .int .i64 b, .int .i64 c, .int .i64 v.num, .int .i64 v.next, .bool v.dead, .bool true] 70)).alloc (.cells #[.int .i64 0, .bool false, .int .i64 0] 67) := ⟨_, rfl⟩
  have K0 : Keeps (fun _ => False) w w0 := by rw [hw0]; exact ((Keeps.refl _ w).alloc _).alloc _
  have b0 : B8 w0 ρ w.heap.size ⟨13, a, b, c, v, true⟩ := by
    refine ⟨h.st.bnd _ (Nat.le_refl _), ?_, ?_, ?_, ?_, ?_, ?_, ?_, ?_⟩ <;> rw [hw0] <;> simp
  have r0 : R3 w0 ρ (w.heap.size + 1) := by
    refine ⟨h.st.bnd _ (by omega), ?_, ?_, ?_, fun o => ?_⟩ <;> rw [hw0] <;> simp
  obtain ⟨h0, x0⟩ := h.new K0
  have n0 := h.not0
  have ns := Sr.not0 h.st
  have nb : ¬ Sr u j q := h.qs
  clear h K0
  have hk1 : k ≤ 2500000000000 := by omega
  have OP : Opn m k ⟨13, a, b, c, v, true⟩ m k := .inr ⟨rfl, rfl, rfl⟩
  have z0 := b0.c0
  have z7 := b0.c7
  simp only [opv]
  go_enter Try.func21, Try.ntmps21
  go_wp2_with fail
  rw [← hw0]
  clear hw0 z0 z7
  obtain ⟨w1, hw1⟩ : ∃ w1, w1 = w0 := ⟨_, rfl⟩
  rw [← hw1] at b0 r0 h0 x0 ⊢
  clear hw1
  obtain ⟨ρ1, hρ1⟩ : ∃ ρ1, ρ1 = ρ := ⟨_, rfl⟩
  have X1 : Ext (Sq u j q) w w1 ρ ρ1 := hρ1 ▸ x0
  have b1 : B8 w1 ρ1 w.heap.size ⟨13, a, b, c, v, true⟩ := hρ1 ▸ b0
  have r1 : R3 w1 ρ1 (w.heap.size + 1) := hρ1 ▸ r0
  have h1 : Rs w1 ρ1 u j q rb wb mb s m k := hρ1 ▸ h0
  clear b0 r0 h0 x0 hρ1
  have KD : Keeps (fun _ => False) w1 w1.drew := (Keeps.refl _ w1).drew
  obtain ⟨h2, x2⟩ := h1.new KD
  have b2 := b1.ext x2 n0
  have r2 := r1.ext x2 n0
  have X2 := X1.trans x2
  have e1 := b1.c1
  have g1 := h1.c1
  have hcall := Flag_any h2.st h2.iv (h2.log hk1) (o := ⟨13, a, b, c, v, true⟩) rfl
  simp only [] at hcall e1
  have nr : ¬ Sr u j (ρ1 rb) := by rw [h1.rr]; exact nb
  have nB : ¬ Sr u j (ρ1 w.heap.size) := by rw [b1.r]; exact ns
  have c0' := r2.c0
  have c1' := r2.c1
  have c2' := r2.c2
  have cz := r2.z
  have H2 : Hid (Rs w1.drew ρ1 u j q rb wb mb s m (k)) := h2
  have R2 : Hid (R3 w1.drew ρ1 (w.heap.size + 1)) := r2
  have B2 : Hid (B8 w1.drew ρ1 w.heap.size ⟨13, a, b, c, v, true⟩) := b2
  have hBl := r2.lt
  have hB0 := r2.r
  have g1' := KD.cell g1 (fun e => e)
  have e1' := KD.cell e1 (fun e => e)
  clear h1 b1 r1 X1 x2 h2 r2 b2
  go_region_held3 (fun w' => w'.cell? ⟨rb, 1, none⟩ = some (.pointer (some ⟨wb, 0, none⟩)) ∧ w'.cell? ⟨w.heap.size, 1, none⟩ = some (.int .i64 a)) (go_keep) ((go_at_call 49; refine hcall.mono ?_; rintro e w3 ⟨er, d, rfl, hdd⟩; obtain ⟨ρ3, s3, m3, hdo, hs3, x3⟩ := hdd; have f1 := x3.cell (p := ⟨rb, 1, none⟩) g1' nr; have f2 := x3.cell (p := ⟨w.heap.size, 1, none⟩) e1' nB; have y3 := R2.out.ext x3 ns; have y30 := y3.c0; have y31 := y3.c1; have y32 := y3.c2; have yz0 := y3.z 0; have yz1 := y3.z 1; have yz2 := y3.z 2; have HD : Hid (Did w1.drew ρ1 u j wb mb s m ⟨13, a, b, c, v, true⟩ w3 er d 0) := ⟨ρ3, s3, m3, hdo, hs3, x3⟩; clear y3 hdo hs3 x3))
  all_goals
    (try simp only [Exit.then])
    clear hcall e1 g1 g1' c0' c1' c2' cz
    go_wp2_with (go_at_call 12; refine (num_of _ _).mono ?_; rintro e w' ⟨rfl, rfl⟩)
    (try simp only [Exit.inBlock, Exit.then])
    refine bodyPost_ret (v := .agg #[.int .i64 er, .bool d, .int .i64 0]) ?_ rfl ⟨er, d, 0, rfl, ?_⟩
    · simp [results, Try.f21, go_sem, y30, y31, y32]
    · exact done_end OP X2 H2.out HD.out (by omega) hBl hB0 _ _ _
set_option maxHeartbeats 3200000 in
set_option maxRecDepth 1000000 in
theorem does_13_false (h : Rs w ρ u j q rb wb mb s m k) (hk : k ≤ 2499999999999) (a b c : Int) (v : Vl) :
    Calls Try.prog 21 #[.pointer (some ⟨rb, 0, none⟩), opv ⟨13, a, b, c, v, false⟩] w fun e w' => ∃ er d n, e = .returned (.agg #[.int .i64 er, .bool d, .int .i64 n]) ∧ Done w ρ u j q rb wb mb s m k ⟨13, a, b, c, v, false⟩ w' er d n := by
  obtain ⟨w0, hw0⟩ : ∃ w0, w0 = (w.alloc (.cells #[.int .i64 13, .int .i64 a, .int .i64 b, .int .i64 c, .int .i64 v.num, .int .i64 v.next, .bool v.dead, .bool false] 70)).alloc (.cells #[.int .i64 0, .bool false, .int .i64 0] 67) := ⟨_, rfl⟩
  have K0 : Keeps (fun _ => False) w w0 := by rw [hw0]; exact ((Keeps.refl _ w).alloc _).alloc _
  have b0 : B8 w0 ρ w.heap.size ⟨13, a, b, c, v, false⟩ := by
    refine ⟨h.st.bnd _ (Nat.le_refl _), ?_, ?_, ?_, ?_, ?_, ?_, ?_, ?_⟩ <;> rw [hw0] <;> simp
  have r0 : R3 w0 ρ (w.heap.size + 1) := by
    refine ⟨h.st.bnd _ (by omega), ?_, ?_, ?_, fun o => ?_⟩ <;> rw [hw0] <;> simp
  obtain ⟨h0, x0⟩ := h.new K0
  have n0 := h.not0
  have ns := Sr.not0 h.st
  have nb : ¬ Sr u j q := h.qs
  clear h K0
  have hop := open_any h0 (by omega)
  have z0 := b0.c0
  have z7 := b0.c7
  simp only [opv]
  go_enter Try.func21, Try.ntmps21
  go_wp2_with fail
  rw [← hw0]
  clear hw0 z0 z7
  refine hop.mono ?_
  clear hop
  rintro e w1 ⟨rfl, ρ1, h1, x1⟩
  have X1 := x0.trans x1
  have b1 := b0.ext x1 n0
  have r1 := r0.ext x1 n0
  have hk1 : k + 1 ≤ 2500000000000 := by omega
  have OP : Opn m k ⟨13, a, b, c, v, false⟩ (m.begin (k : Int) 0) (k + 1) := .inl ⟨rfl, rfl, rfl⟩
  have z0 := b1.c0
  clear b0 r0 h0 x0 x1
  go_wp2_with fail
  have KD : Keeps (fun _ => False) w1 w1.drew := (Keeps.refl _ w1).drew
  obtain ⟨h2, x2⟩ := h1.new KD
  have b2 := b1.ext x2 n0
  have r2 := r1.ext x2 n0
  have X2 := X1.trans x2
  have e1 := b1.c1
  have g1 := h1.c1
  have hcall := Flag_any h2.st h2.iv (h2.log hk1) (o := ⟨13, a, b, c, v, false⟩) rfl
  simp only [] at hcall e1
  have nr : ¬ Sr u j (ρ1 rb) := by rw [h1.rr]; exact nb
  have nB : ¬ Sr u j (ρ1 w.heap.size) := by rw [b1.r]; exact ns
  have c0' := r2.c0
  have c1' := r2.c1
  have c2' := r2.c2
  have cz := r2.z
  have H2 : Hid (Rs w1.drew ρ1 u j q rb wb mb s (m.begin (k : Int) 0) (k + 1)) := h2
  have R2 : Hid (R3 w1.drew ρ1 (w.heap.size + 1)) := r2
  have B2 : Hid (B8 w1.drew ρ1 w.heap.size ⟨13, a, b, c, v, false⟩) := b2
  have hBl := r2.lt
  have hB0 := r2.r
  have g1' := KD.cell g1 (fun e => e)
  have e1' := KD.cell e1 (fun e => e)
  clear h1 b1 r1 X1 x2 h2 r2 b2
  go_region_held3 (fun w' => w'.cell? ⟨rb, 1, none⟩ = some (.pointer (some ⟨wb, 0, none⟩)) ∧ w'.cell? ⟨w.heap.size, 1, none⟩ = some (.int .i64 a)) (go_keep) ((go_at_call 49; refine hcall.mono ?_; rintro e w3 ⟨er, d, rfl, hdd⟩; obtain ⟨ρ3, s3, m3, hdo, hs3, x3⟩ := hdd; have f1 := x3.cell (p := ⟨rb, 1, none⟩) g1' nr; have f2 := x3.cell (p := ⟨w.heap.size, 1, none⟩) e1' nB; have y3 := R2.out.ext x3 ns; have y30 := y3.c0; have y31 := y3.c1; have y32 := y3.c2; have yz0 := y3.z 0; have yz1 := y3.z 1; have yz2 := y3.z 2; have HD : Hid (Did w1.drew ρ1 u j wb mb s (m.begin (k : Int) 0) ⟨13, a, b, c, v, false⟩ w3 er d 0) := ⟨ρ3, s3, m3, hdo, hs3, x3⟩; clear y3 hdo hs3 x3))
  all_goals
    (try simp only [Exit.then])
    clear hcall e1 g1 g1' c0' c1' c2' cz
    go_wp2_with (go_at_call 12; refine (num_of _ _).mono ?_; rintro e w' ⟨rfl, rfl⟩)
    (try simp only [Exit.inBlock, Exit.then])
    refine bodyPost_ret (v := .agg #[.int .i64 er, .bool d, .int .i64 0]) ?_ rfl ⟨er, d, 0, rfl, ?_⟩
    · simp [results, Try.f21, go_sem, y30, y31, y32]
    · exact done_end OP X2 H2.out HD.out (by omega) hBl hB0 _ _ _
set_option maxHeartbeats 3200000 in
set_option maxRecDepth 1000000 in
theorem does_14_true (h : Rs w ρ u j q rb wb mb s m k) (hk : k ≤ 2499999999999) (a b c : Int) (v : Vl) :
    Calls Try.prog 21 #[.pointer (some ⟨rb, 0, none⟩), opv ⟨14, a, b, c, v, true⟩] w fun e w' => ∃ er d n, e = .returned (.agg #[.int .i64 er, .bool d, .int .i64 n]) ∧ Done w ρ u j q rb wb mb s m k ⟨14, a, b, c, v, true⟩ w' er d n := by
  obtain ⟨w0, hw0⟩ : ∃ w0, w0 = (w.alloc (.cells #[.int .i64 14, .int .i64 a, .int .i64 b, .int .i64 c, .int .i64 v.num, .int .i64 v.next, .bool v.dead, .bool true] 70)).alloc (.cells #[.int .i64 0, .bool false, .int .i64 0] 67) := ⟨_, rfl⟩
  have K0 : Keeps (fun _ => False) w w0 := by rw [hw0]; exact ((Keeps.refl _ w).alloc _).alloc _
  have b0 : B8 w0 ρ w.heap.size ⟨14, a, b, c, v, true⟩ := by
    refine ⟨h.st.bnd _ (Nat.le_refl _), ?_, ?_, ?_, ?_, ?_, ?_, ?_, ?_⟩ <;> rw [hw0] <;> simp
  have r0 : R3 w0 ρ (w.heap.size + 1) := by
    refine ⟨h.st.bnd _ (by omega), ?_, ?_, ?_, fun o => ?_⟩ <;> rw [hw0] <;> simp
  obtain ⟨h0, x0⟩ := h.new K0
  have n0 := h.not0
  have ns := Sr.not0 h.st
  have nb : ¬ Sr u j q := h.qs
  clear h K0
  have hk1 : k ≤ 2500000000000 := by omega
  have OP : Opn m k ⟨14, a, b, c, v, true⟩ m k := .inr ⟨rfl, rfl, rfl⟩
  have z0 := b0.c0
  have z7 := b0.c7
  simp only [opv]
  go_enter Try.func21, Try.ntmps21
  go_wp2_with fail
  rw [← hw0]
  clear hw0 z0 z7
  obtain ⟨w1, hw1⟩ : ∃ w1, w1 = w0 := ⟨_, rfl⟩
  rw [← hw1] at b0 r0 h0 x0 ⊢
  clear hw1
  obtain ⟨ρ1, hρ1⟩ : ∃ ρ1, ρ1 = ρ := ⟨_, rfl⟩
  have X1 : Ext (Sq u j q) w w1 ρ ρ1 := hρ1 ▸ x0
  have b1 : B8 w1 ρ1 w.heap.size ⟨14, a, b, c, v, true⟩ := hρ1 ▸ b0
  have r1 : R3 w1 ρ1 (w.heap.size + 1) := hρ1 ▸ r0
  have h1 : Rs w1 ρ1 u j q rb wb mb s m k := hρ1 ▸ h0
  clear b0 r0 h0 x0 hρ1
  have KD : Keeps (fun _ => False) w1 w1.drew := (Keeps.refl _ w1).drew
  obtain ⟨h2, x2⟩ := h1.new KD
  have b2 := b1.ext x2 n0
  have r2 := r1.ext x2 n0
  have X2 := X1.trans x2
  have e1 := b1.c1
  have e2 := b1.c6
  have g1 := h1.c1
  have hcall := Mark_any h2.st h2.iv (h2.log hk1) (o := ⟨14, a, b, c, v, true⟩) rfl
  simp only [] at hcall e1 e2
  have nr : ¬ Sr u j (ρ1 rb) := by rw [h1.rr]; exact nb
  have nB : ¬ Sr u j (ρ1 w.heap.size) := by rw [b1.r]; exact ns
  have c0' := r2.c0
  have c1' := r2.c1
  have c2' := r2.c2
  have cz := r2.z
  have H2 : Hid (Rs w1.drew ρ1 u j q rb wb mb s m (k)) := h2
  have R2 : Hid (R3 w1.drew ρ1 (w.heap.size + 1)) := r2
  have B2 : Hid (B8 w1.drew ρ1 w.heap.size ⟨14, a, b, c, v, true⟩) := b2
  have hBl := r2.lt
  have hB0 := r2.r
  have g1' := KD.cell g1 (fun e => e)
  have e1' := KD.cell e1 (fun e => e)
  have e2' := KD.cell e2 (fun e => e)
  clear h1 b1 r1 X1 x2 h2 r2 b2
  go_region_held3 (fun w' => w'.cell? ⟨rb, 1, none⟩ = some (.pointer (some ⟨wb, 0, none⟩)) ∧ w'.cell? ⟨w.heap.size, 1, none⟩ = some (.int .i64 a) ∧ w'.cell? ⟨w.heap.size, 6, none⟩ = some (.bool v.dead)) (go_keep) ((go_at_call 50; refine hcall.mono ?_; rintro e w3 ⟨er, d, rfl, hdd⟩; obtain ⟨ρ3, s3, m3, hdo, hs3, x3⟩ := hdd; have f1 := x3.cell (p := ⟨rb, 1, none⟩) g1' nr; have f2 := x3.cell (p := ⟨w.heap.size, 1, none⟩) e1' nB; have f3 := x3.cell (p := ⟨w.heap.size, 6, none⟩) e2' nB; have y3 := R2.out.ext x3 ns; have y30 := y3.c0; have y31 := y3.c1; have y32 := y3.c2; have yz0 := y3.z 0; have yz1 := y3.z 1; have yz2 := y3.z 2; have HD : Hid (Did w1.drew ρ1 u j wb mb s m ⟨14, a, b, c, v, true⟩ w3 er d 0) := ⟨ρ3, s3, m3, hdo, hs3, x3⟩; clear y3 hdo hs3 x3))
  all_goals
    (try simp only [Exit.then])
    clear hcall e1 g1 g1' c0' c1' c2' cz
    go_wp2_with (go_at_call 12; refine (num_of _ _).mono ?_; rintro e w' ⟨rfl, rfl⟩)
    (try simp only [Exit.inBlock, Exit.then])
    refine bodyPost_ret (v := .agg #[.int .i64 er, .bool d, .int .i64 0]) ?_ rfl ⟨er, d, 0, rfl, ?_⟩
    · simp [results, Try.f21, go_sem, y30, y31, y32]
    · exact done_end OP X2 H2.out HD.out (by omega) hBl hB0 _ _ _
set_option maxHeartbeats 3200000 in
set_option maxRecDepth 1000000 in
theorem does_14_false (h : Rs w ρ u j q rb wb mb s m k) (hk : k ≤ 2499999999999) (a b c : Int) (v : Vl) :
    Calls Try.prog 21 #[.pointer (some ⟨rb, 0, none⟩), opv ⟨14, a, b, c, v, false⟩] w fun e w' => ∃ er d n, e = .returned (.agg #[.int .i64 er, .bool d, .int .i64 n]) ∧ Done w ρ u j q rb wb mb s m k ⟨14, a, b, c, v, false⟩ w' er d n := by
  obtain ⟨w0, hw0⟩ : ∃ w0, w0 = (w.alloc (.cells #[.int .i64 14, .int .i64 a, .int .i64 b, .int .i64 c, .int .i64 v.num, .int .i64 v.next, .bool v.dead, .bool false] 70)).alloc (.cells #[.int .i64 0, .bool false, .int .i64 0] 67) := ⟨_, rfl⟩
  have K0 : Keeps (fun _ => False) w w0 := by rw [hw0]; exact ((Keeps.refl _ w).alloc _).alloc _
  have b0 : B8 w0 ρ w.heap.size ⟨14, a, b, c, v, false⟩ := by
    refine ⟨h.st.bnd _ (Nat.le_refl _), ?_, ?_, ?_, ?_, ?_, ?_, ?_, ?_⟩ <;> rw [hw0] <;> simp
  have r0 : R3 w0 ρ (w.heap.size + 1) := by
    refine ⟨h.st.bnd _ (by omega), ?_, ?_, ?_, fun o => ?_⟩ <;> rw [hw0] <;> simp
  obtain ⟨h0, x0⟩ := h.new K0
  have n0 := h.not0
  have ns := Sr.not0 h.st
  have nb : ¬ Sr u j q := h.qs
  clear h K0
  have hop := open_any h0 (by omega)
  have z0 := b0.c0
  have z7 := b0.c7
  simp only [opv]
  go_enter Try.func21, Try.ntmps21
  go_wp2_with fail
  rw [← hw0]
  clear hw0 z0 z7
  refine hop.mono ?_
  clear hop
  rintro e w1 ⟨rfl, ρ1, h1, x1⟩
  have X1 := x0.trans x1
  have b1 := b0.ext x1 n0
  have r1 := r0.ext x1 n0
  have hk1 : k + 1 ≤ 2500000000000 := by omega
  have OP : Opn m k ⟨14, a, b, c, v, false⟩ (m.begin (k : Int) 0) (k + 1) := .inl ⟨rfl, rfl, rfl⟩
  have z0 := b1.c0
  clear b0 r0 h0 x0 x1
  go_wp2_with fail
  have KD : Keeps (fun _ => False) w1 w1.drew := (Keeps.refl _ w1).drew
  obtain ⟨h2, x2⟩ := h1.new KD
  have b2 := b1.ext x2 n0
  have r2 := r1.ext x2 n0
  have X2 := X1.trans x2
  have e1 := b1.c1
  have e2 := b1.c6
  have g1 := h1.c1
  have hcall := Mark_any h2.st h2.iv (h2.log hk1) (o := ⟨14, a, b, c, v, false⟩) rfl
  simp only [] at hcall e1 e2
  have nr : ¬ Sr u j (ρ1 rb) := by rw [h1.rr]; exact nb
  have nB : ¬ Sr u j (ρ1 w.heap.size) := by rw [b1.r]; exact ns
  have c0' := r2.c0
  have c1' := r2.c1
  have c2' := r2.c2
  have cz := r2.z
  have H2 : Hid (Rs w1.drew ρ1 u j q rb wb mb s (m.begin (k : Int) 0) (k + 1)) := h2
  have R2 : Hid (R3 w1.drew ρ1 (w.heap.size + 1)) := r2
  have B2 : Hid (B8 w1.drew ρ1 w.heap.size ⟨14, a, b, c, v, false⟩) := b2
  have hBl := r2.lt
  have hB0 := r2.r
  have g1' := KD.cell g1 (fun e => e)
  have e1' := KD.cell e1 (fun e => e)
  have e2' := KD.cell e2 (fun e => e)
  clear h1 b1 r1 X1 x2 h2 r2 b2
  go_region_held3 (fun w' => w'.cell? ⟨rb, 1, none⟩ = some (.pointer (some ⟨wb, 0, none⟩)) ∧ w'.cell? ⟨w.heap.size, 1, none⟩ = some (.int .i64 a) ∧ w'.cell? ⟨w.heap.size, 6, none⟩ = some (.bool v.dead)) (go_keep) ((go_at_call 50; refine hcall.mono ?_; rintro e w3 ⟨er, d, rfl, hdd⟩; obtain ⟨ρ3, s3, m3, hdo, hs3, x3⟩ := hdd; have f1 := x3.cell (p := ⟨rb, 1, none⟩) g1' nr; have f2 := x3.cell (p := ⟨w.heap.size, 1, none⟩) e1' nB; have f3 := x3.cell (p := ⟨w.heap.size, 6, none⟩) e2' nB; have y3 := R2.out.ext x3 ns; have y30 := y3.c0; have y31 := y3.c1; have y32 := y3.c2; have yz0 := y3.z 0; have yz1 := y3.z 1; have yz2 := y3.z 2; have HD : Hid (Did w1.drew ρ1 u j wb mb s (m.begin (k : Int) 0) ⟨14, a, b, c, v, false⟩ w3 er d 0) := ⟨ρ3, s3, m3, hdo, hs3, x3⟩; clear y3 hdo hs3 x3))
  all_goals
    (try simp only [Exit.then])
    clear hcall e1 g1 g1' c0' c1' c2' cz
    go_wp2_with (go_at_call 12; refine (num_of _ _).mono ?_; rintro e w' ⟨rfl, rfl⟩)
    (try simp only [Exit.inBlock, Exit.then])
    refine bodyPost_ret (v := .agg #[.int .i64 er, .bool d, .int .i64 0]) ?_ rfl ⟨er, d, 0, rfl, ?_⟩
    · simp [results, Try.f21, go_sem, y30, y31, y32]
    · exact done_end OP X2 H2.out HD.out (by omega) hBl hB0 _ _ _
end
end Go.Proofs.Ytdeiochjkbogpaa
