import Derived.Test.YteomlhcllmlkpaaGreatDoorTxP
namespace Go.Proofs.YteomlhcllmlkpaaGreatDoor
open Go.RowKit
attribute [local go_sem] Oper.semAt_some run_store_nf run_store_f
section
variable {w W : World} {ρ : Nat → Nat} {c : Sc} {ab sb : Nat}
set_option maxHeartbeats 1600000 in
set_option maxRecDepth 1000000 in
theorem head_any (w : World) (hT : TR w) : Calls Tryz.prog 4 #[] w fun e w' => e = .returned (.bool true) ∧ Keeps (fun _ => False) w w' := by
  have h0 : 0 < w.heap.size := World.block_lt_of_cell? _ _ (hT 0 (by decide)).1
  have qa : ∀ (a : Addr) (w : World), (binOp .eql 34 (.pointer (some a)) (.pointer none)).run Tryz.prog w = .ok (.bool false) w := fun _ _ => rfl
  obtain ⟨W1, hW1⟩ : ∃ W1, W1 = w.alloc (.cells #[.int .i64 7] 2) := ⟨_, rfl⟩
  have k1 : Keeps (fun _ => False) w W1 := by rw [hW1]; exact (Keeps.refl _ w).alloc _
  have hv : W1.cell? ⟨w.heap.size, 0, none⟩ = some (.int .i64 7) := by rw [hW1]; simp
  have hsc := scene0 hv
  go_enter Tryz.func4, Tryz.ntmps4
  go_wp2_with fail
  rw [← hW1]
  clear hW1
  refine hsc.mono ?_
  rintro e W2 ⟨mb, wb, gb, db, rfl, hS⟩
  clear hsc hv
  have k2 := k1.trans hS.k
  have hS3 := CL.made W2 [.pointer (some ⟨mb, 0, none⟩), .pointer (some ⟨wb, 0, none⟩), .pointer (some ⟨gb, 0, none⟩), .pointer (some ⟨db, 0, none⟩)] 28
  have k23 : Keeps (fun _ => False) W2 (W2.alloc (.cells #[.pointer (some ⟨mb, 0, none⟩), .pointer (some ⟨wb, 0, none⟩), .pointer (some ⟨gb, 0, none⟩), .pointer (some ⟨db, 0, none⟩)] 28)) := (Keeps.refl _ W2).alloc _
  go_wp2_with fail
  obtain ⟨ρ2, st2, hz2, hg2⟩ := hS.st
  obtain ⟨sb, hsb⟩ : ∃ sb, sb = W2.heap.size := ⟨_, rfl⟩
  have hbs : ρ2 sb = 0 := st2.bnd _ (by omega)
  have st3 := st2.new k23
  have mg3 := hS.mg.keep k23
  have tr3 := hT.keep (k2.trans k23)
  have lt3 := hS3.lt (by show 0 < 4; decide)
  have lS := hS.k.size
  have lg := hS.g
  have lgt : gb < W2.heap.size := World.block_lt_of_cell? _ _ hS.mg.2.2
  have l1 := k1.size
  rw [← hsb] at hS3 lt3
  rw [← hsb]
  have k3 := k2.trans k23
  generalize W2.alloc (.cells #[.pointer (some ⟨mb, 0, none⟩), .pointer (some ⟨wb, 0, none⟩), .pointer (some ⟨gb, 0, none⟩), .pointer (some ⟨db, 0, none⟩)] 28) = W3 at *
  have hN := tnew_ok (db := db) st3.1 mg3 tr3 rfl (by decide) 1 1 (-1) 0
  refine hN.mono ?_
  rintro e W4 ⟨ab, om, rfl, lab, lom, ρ4, hax, x4⟩
  clear hN
  have S0 : ¬ Sr 1 2 0 := by unfold Sr; omega
  have z3 : ∀ q, ρ2 q = 0 → ¬ Sr 1 2 (ρ2 q) := fun q hq => by rw [hq]; exact S0
  have h00 : ρ2 0 = 0 := hz2 0 (by omega)
  obtain ⟨c, hc⟩ : ∃ c : Sc, c = ⟨mb, wb, gb, db, .slice none 0 0, none, .slice none 0 0, om⟩ := ⟨_, rfl⟩
  have hbr : c.bare := by rw [hc]; exact ⟨rfl, rfl, rfl⟩
  have H0 : Hd w ρ4 c ab sb hx0 0 (fun _ => none) hs0 hm0 W4 := by
    rw [hc]
    exact ⟨hax, hS3.keep (by show 0 < 4; decide) x4.keeps (z3 _ hbs), ⟨mg3.1, mg3.2.1, x4.cell mg3.2.2 (z3 _ hg2)⟩, fun i hi => ⟨x4.cell (tr3 i hi).1 (z3 _ h00), x4.cell (tr3 i hi).2.1 (z3 _ h00), x4.cell (tr3 i hi).2.2.1 (z3 _ h00), x4.cell (tr3 i hi).2.2.2 (z3 _ h00)⟩,
      k3.trans' x4.keeps (fun _ _ e => e) (fun i hi e => z3 _ (hz2 i (by omega)) e), fun q hq => (x4.old q (by omega)).trans (hz2 q (by omega)), h0, by omega, by show w.heap.size ≤ om; omega, ⟨(x4.old _ lt3).trans hbs, by omega, by show sb ≠ om; omega⟩, ⟨(x4.old gb (by omega)).trans hg2, by show gb ≠ ab; omega, by show gb ≠ om; omega⟩⟩
  clear hax x4 hS3 mg3 tr3 st3 st2 hS z3 hbs hg2 hz2 k3 k23 k2 hc h00 hT lt3 lS lg lgt l1 lab lom hsb
  go_wp2_with fail
  refine (num_tx _ _).mono ?_
  rintro e W5 ⟨rfl, rfl⟩
  have hWr := write_free H0.ax rfl rfl (o := 0) (by decide) ⟨by decide, by decide⟩ rfl
  go_wp2_with fail
  refine hWr.mono ?_
  rintro e W6 ⟨rfl, ha6, k6⟩
  have H1 : Hd w ρ4 c ab sb hx1 0 (fun _ => none) hs0 hm0 W6 := H0.self ha6 k6
  clear hWr H0 ha6 k6
  go_wp2_with fail
  go_loopw [6] (fun iv W => (iv = .int .i64 0 ∧ ∃ ρ, Hd w ρ c ab sb hx1 0 (fun _ => none) hs0 hm0 W) ∨ (iv = .int .i64 1 ∧ ∃ ρ, Hd w ρ c ab sb hx2 0 (fun _ => none) hs0 hm2 W) ∨ (iv = .int .i64 2 ∧ ∃ ρ, Hd w ρ c ab sb hx3 0 (fun _ => none) hs0 hm4 W) ∨ (iv = .int .i64 3 ∧ ∃ ρ, Hd w ρ c ab sb hx4 1 hf1 hs1 hm6 W) ∨ (iv = .int .i64 4 ∧ ∃ ρ, Hd w ρ c ab sb hx5 1 hf1 hs1 hm8 W)) (fun iv _ => 4 - (intOf iv).toNat)
  case atStart => exact .inl ⟨rfl, ρ4, H1⟩
  case round =>
    rcases hrel with ⟨rfl, hh⟩ | ⟨rfl, hh⟩ | ⟨rfl, hh⟩ | ⟨rfl, hh⟩ | ⟨rfl, hh⟩
    · obtain ⟨ρa, hh⟩ := hh
      have hB := hh.mem 0 1 (by decide)
      have s0 := hh.sv.c 0 _ rfl
      go_wp2_with fail
      refine hB.mono ?_
      rintro e Wa ⟨rfl, ρb, hb⟩
      have hS := st1 hb
      clear hB s0 hh
      go_wp2_with fail
      refine hS.mono ?_
      rintro e Wb ⟨⟨rw, htold, rfl⟩, ρc, hc⟩
      clear hS hb
      go_wp2_with (refine wpList_store_cl rfl 46 _ _ rfl Wb.heap.size 0 26 _ rfl rfl rfl (CL.made Wb Ro.zero.cells 46) (by show 26 ≤ 26; decide) i46 (all_oneCell_toArray (by simp [Ro.cells, Value.oneCell'])) ?_; intro Wc hrow kc _; have t17 := hrow.c 17 (.bool rw.told) rfl; rw [htold] at t17)
      refine (num_tx _ _).mono ?_
      rintro e Wd ⟨rfl, rfl⟩
      go_wp2_with fail
      go_roundw
      case rel => exact .inr <| .inl ⟨rfl, ρc, hc.new (((Keeps.refl (fun _ => False) Wb).alloc _).trans' kc (fun _ _ e => e) (fun i hi e => by omega))⟩
      case measure => simp [intOf]
    · obtain ⟨ρa, hh⟩ := hh
      have hB := hh.mem 1 1 (by decide)
      have s0 := hh.sv.c 0 _ rfl
      go_wp2_with fail
      refine hB.mono ?_
      rintro e Wa ⟨rfl, ρb, hb⟩
      have hS := st2 hb hbr
      clear hB s0 hh
      go_wp2_with fail
      refine hS.mono ?_
      rintro e Wb ⟨⟨rw, htold, rfl⟩, ρc, hc⟩
      clear hS hb
      go_wp2_with (refine wpList_store_cl rfl 46 _ _ rfl Wb.heap.size 0 26 _ rfl rfl rfl (CL.made Wb Ro.zero.cells 46) (by show 26 ≤ 26; decide) i46 (all_oneCell_toArray (by simp [Ro.cells, Value.oneCell'])) ?_; intro Wc hrow kc _; have t17 := hrow.c 17 (.bool rw.told) rfl; rw [htold] at t17)
      refine (num_tx _ _).mono ?_
      rintro e Wd ⟨rfl, rfl⟩
      go_wp2_with fail
      go_roundw
      case rel => exact .inr <| .inr <| .inl ⟨rfl, ρc, hc.new (((Keeps.refl (fun _ => False) Wb).alloc _).trans' kc (fun _ _ e => e) (fun i hi e => by omega))⟩
      case measure => simp [intOf]
    · obtain ⟨ρa, hh⟩ := hh
      have hB := hh.mem 2 1 (by decide)
      have s0 := hh.sv.c 0 _ rfl
      go_wp2_with fail
      refine hB.mono ?_
      rintro e Wa ⟨rfl, ρb, hb⟩
      have hS := st3 hb hbr
      clear hB s0 hh
      go_wp2_with fail
      refine hS.mono ?_
      rintro e Wb ⟨⟨rw, htold, rfl⟩, ρc, hc⟩
      clear hS hb
      go_wp2_with (refine wpList_store_cl rfl 46 _ _ rfl Wb.heap.size 0 26 _ rfl rfl rfl (CL.made Wb Ro.zero.cells 46) (by show 26 ≤ 26; decide) i46 (all_oneCell_toArray (by simp [Ro.cells, Value.oneCell'])) ?_; intro Wc hrow kc _; have t17 := hrow.c 17 (.bool rw.told) rfl; rw [htold] at t17)
      refine (num_tx _ _).mono ?_
      rintro e Wd ⟨rfl, rfl⟩
      go_wp2_with fail
      go_roundw
      case rel => exact .inr <| .inr <| .inr <| .inl ⟨rfl, ρc, hc.new (((Keeps.refl (fun _ => False) Wb).alloc _).trans' kc (fun _ _ e => e) (fun i hi e => by omega))⟩
      case measure => simp [intOf]
    · obtain ⟨ρa, hh⟩ := hh
      have hB := hh.mem 3 1 (by decide)
      have s0 := hh.sv.c 0 _ rfl
      go_wp2_with fail
      refine hB.mono ?_
      rintro e Wa ⟨rfl, ρb, hb⟩
      have hS := st4 hb
      clear hB s0 hh
      go_wp2_with fail
      refine hS.mono ?_
      rintro e Wb ⟨⟨rw, htold, rfl⟩, ρc, hc⟩
      clear hS hb
      go_wp2_with (refine wpList_store_cl rfl 46 _ _ rfl Wb.heap.size 0 26 _ rfl rfl rfl (CL.made Wb Ro.zero.cells 46) (by show 26 ≤ 26; decide) i46 (all_oneCell_toArray (by simp [Ro.cells, Value.oneCell'])) ?_; intro Wc hrow kc _; have t17 := hrow.c 17 (.bool rw.told) rfl; rw [htold] at t17)
      refine (num_tx _ _).mono ?_
      rintro e Wd ⟨rfl, rfl⟩
      go_wp2_with fail
      go_roundw
      case rel => exact .inr <| .inr <| .inr <| .inr ⟨rfl, ρc, hc.new (((Keeps.refl (fun _ => False) Wb).alloc _).trans' kc (fun _ _ e => e) (fun i hi e => by omega))⟩
      case measure => simp [intOf]
    · obtain ⟨ρa, hh⟩ := hh
      have hP := put_own hh.ax HI8 rfl rfl (o := 0) (y := 1) (by decide) ⟨by decide, by decide⟩ rfl (by decide) (by decide) (by decide) ⟨9, 0, false⟩
      go_wp2_with fail
      refine hP.mono ?_
      rintro e Wa ⟨rfl, ρb, ha, xa⟩
      have Hb : Hd w ρb c ab sb hx5 1 hf1 hs2 hm8 Wa := hh.ext ha xa
      clear hP hh ha xa
      have hFi := finish_free Hb.ax hbr rfl rfl
      go_wp2_with fail
      refine hFi.mono ?_
      rintro e Wb ⟨rfl, hab, kb⟩
      have Hc : Hd w ρb c ab sb hx6 1 hf1 hs2 hm8 Wb := Hb.self hab kb
      clear hFi Hb hab kb
      have hB := Hc.mem 4 1 (by decide)
      have s0 := Hc.sv.c 0 _ rfl
      go_wp2_with fail
      refine hB.mono ?_
      rintro e Wc ⟨rfl, ρd, hd⟩
      have hS := st5 hd
      clear hB s0 Hc
      go_wp2_with fail
      refine hS.mono ?_
      rintro e Wd ⟨⟨rw, hfin, rfl⟩, ρe, he⟩
      clear hS hd
      go_wp2_with (refine wpList_store_cl rfl 46 _ _ rfl Wd.heap.size 0 26 _ rfl rfl rfl (CL.made Wd Ro.zero.cells 46) (by show 26 ≤ 26; decide) i46 (all_oneCell_toArray (by simp [Ro.cells, Value.oneCell'])) ?_; intro We hrow ke hsz; clear hsz; have Hf := he.new (((Keeps.refl (fun _ => False) Wd).alloc _).trans' ke (fun _ _ e => e) (fun i hi e => by omega)); have s1 := Hf.sv.c 1 _ rfl)
      refine (com_any Hf.ax.st HI10.wf).mono ?_
      rintro e Wf ⟨rfl, ho, kf⟩
      rw [Hcom] at ho
      have t25 := kf.cell (hrow.c 25 (.int .i64 rw.fin) rfl) (fun e => e)
      rw [hfin] at t25
      have v0 : Wf.cell? ⟨We.heap.size, 0, none⟩ = some (.int .i64 9) := owns_cell ho rfl (j := 0) rfl
      have KF := Hf.k.trans kf
      have eL : hs2.objs.length = 1 := by decide
      rw [eL]
      clear s1 hrow ho Hf he kf ke
      go_wp2_with (go_at_call 7; refine (num_tx _ _).mono ?_; rintro e Wq ⟨rfl, rfl⟩)
      go_ret
      exact ⟨rfl, KF⟩
end
end Go.Proofs.YteomlhcllmlkpaaGreatDoor
