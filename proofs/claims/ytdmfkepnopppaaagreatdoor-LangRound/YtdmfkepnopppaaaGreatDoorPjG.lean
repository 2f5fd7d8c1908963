import Derived.Test.YtdmfkepnopppaaaGreatDoorPjF
namespace Go.Proofs.YtdmfkepnopppaaaGreatDoor
open Go.RowKit Go.Deep Go.ChangeShapes Go.WideShapes Go.ChangeAt
attribute [local go_sem] Oper.semAt_some run_store_nf run_store_f
set_option maxHeartbeats 1000000 in
set_option maxRecDepth 1000000 in
theorem ins_any {w0 w : World} {R mb n b off cap : Nat} {cv jv : Value} {qs : List Ins} {f : ByteArray → Option Nat} {js : List (Nat × Pc)} {p0 : Pc} {r : List Pc}
    (hT : PT w0) (hNT : NT w0) (k0 : Keeps (fun _ => False) w0 w) (hI : RX w w0.heap.size R mb cv jv qs n f js) (hw : PCL w (some ⟨b, off, none⟩) (p0 :: r)) (hsz : ∀ p ∈ (p0 :: r), p.t.size ≤ 4096 ∧ 0 ≤ p.col ∧ p.col ≤ 100000) (hbR : b ≠ R) (hbj : jv.ownBlock ≠ some b) (hq : qs.length ≤ 64) (hjl : js.length ≤ 4000000) :
    Calls Tryz.prog 26 #[.pointer (some ⟨R, 0, none⟩), .slice (some ⟨b, off, none⟩) (r.length + 1) cap] w (InsP w w0.heap.size R mb cv jv qs n f js (insR qs.length (p0 :: r))) := by
  have HQ : Hid (qs.length ≤ 64) := hq
  clear hq
  obtain ⟨p0t, p0l, p0c⟩ := p0
  obtain ⟨b', off', e', hp0⟩ := hw 0 _ rfl
  injection e' with e'
  injection e' with e1 e2 _
  subst e1 e2
  have hR0 : ∀ W, Keeps (fun _ => False) w W → (loadVar 76 ⟨b, off, none⟩).run Tryz.prog W = .ok (.agg #[.string p0t, .int .i64 p0l, .int .i64 p0c]) W := fun W k => run_pcAt (W := W) (b := b) (o := off) (p := ⟨p0t, p0l, p0c⟩) (fun j v e => by have := k.cell (hp0 j v e) (fun e => e); rw [Nat.zero_mul, Nat.add_zero] at this; exact this)
  have hR1 := hR0 w (Keeps.refl _ w)
  cases hn : nmd p0t with
  | none =>
    have hRES : insR qs.length (⟨p0t, p0l, p0c⟩ :: r) = .error (101, p0l, p0c) := by unfold insR; simp only [hn]
    rw [hRES]
    have hNm := named_no p0t p0l p0c (hT.keep k0).lt (hNT.keep k0) hn
    clear hR0 hp0 hw
    go_enter Tryz.func26, Tryz.ntmps26
    go_wp2_with (refine wpList_load_run rfl 76 _ rfl ⟨b, off, none⟩ rfl _ hR1 ?_; clear hR1)
    refine hNm.mono ?_
    rintro e w1 ⟨rfl, k1⟩
    exact ⟨rfl, rfl, k1.mono (fun _ _ e => e.elim)⟩
  | some q0 =>
    have hNm := named_ok p0t p0l p0c (hT.keep k0).lt (hNT.keep k0) hn
    obtain ⟨c, hcd, hc1, hc2⟩ := nmd_code hn
    have hRES : insR qs.length (⟨p0t, p0l, p0c⟩ :: r) = if qs.length = 64 then .error (106, p0l, p0c) else fls q0 (slo c) ⟨p0t, p0l, p0c⟩ r [] := by
      unfold insR
      simp only [hn]
      rw [hcd, Int.toNat_natCast]
    rw [hRES]
    clear hRES hn
    obtain ⟨RES, hRS⟩ : ∃ RES, (if qs.length = 64 then .error (106, p0l, p0c) else fls q0 (slo c) ⟨p0t, p0l, p0c⟩ r []) = RES := ⟨_, rfl⟩
    rw [hRS]
    have HRS : Hid (_ = _) := hRS
    clear hRS
    obtain ⟨ac, capc, rfl⟩ := slice_of_owns hI.o
    go_enter Tryz.func26, Tryz.ntmps26
    refine wp_seq_k (fun KK hKK => ?_)
    have hKH : Hid _ := hKK
    clear hKK
    go_wp2_with (refine wpList_load_run rfl 76 _ rfl ⟨b, off, none⟩ rfl _ hR1 ?_; clear hR1)
    refine hNm.mono ?_
    rintro e w1 ⟨rfl, k1⟩
    obtain ⟨W4, hW4⟩ : ∃ W4, W4 = w1.alloc (.cells #[.int .i64 0, .int .i64 0, .bool false, .int .i64 0, .bool false, .int .i64 0, .bool false, .int .i64 0, .int .i64 0, .int .i64 0, .int .i64 0] 45) := ⟨_, rfl⟩
    have k4 : Keeps (fun _ => False) w1 W4 := by rw [hW4]; exact (Keeps.refl _ w1).alloc _
    have hU4 : CL W4 w1.heap.size ins0.cells := by rw [hW4]; exact CL.made w1 ins0.cells _
    have hA := all_oneCell_ins q0
    have HW : Hid (_ = _) := hW4
    clear hW4 hNm
    go_wp2_with (rw [← HW.out]; clear HW; refine wpList_store_cl rfl 45 _ _ rfl w1.heap.size 0 11 _ rfl rfl rfl hU4 (by show 11 ≤ 11; decide) iIn hA ?_; intro w5 hc5 k5 hsz5; clear hsz5)
    refine hKH.out _ _ ?_
    clear hKH KK
    have hU5 : CL w5 w1.heap.size q0.cells := hc5
    clear hc5
    have K5 : Keeps (fun _ => False) w w5 := (k1.trans k4).trans' k5 (fun _ _ e => e) (fun i hi e => by have := k1.size; have e : i = w1.heap.size := e; omega)
    have hI5 := hI.keep K5
    have r0 := hI5.c.c 0 _ rfl
    have hib := k1.size
    have hibl : w1.heap.size < w5.heap.size := hU5.lt (by show 0 < 11; decide)
    have hibR : w1.heap.size ≠ R := fun e => by have := hI.lt; omega
    have hcI : Value.ownBlock (.slice ac qs.length capc) ≠ some w1.heap.size := fun e => by have := owns_lt' hI.o _ e; omega
    have hjI : jv.ownBlock ≠ some w1.heap.size := fun e => by have := owns_lt' hI.j _ e; omega
    have hblt : b < w.heap.size := World.block_lt_of_cell? w ⟨b, off + 0 * 3 + 0, none⟩ (hp0 0 _ rfl)
    have hbi : b ≠ w1.heap.size := by omega
    have hib0 : w0.heap.size ≤ w1.heap.size := by have := k0.size; omega
    have hR5 := hR0 w5 K5
    clear hU4 hA k1 k4 k5 hp0 hR0
    generalize w1.heap.size = ib at *
    clear w1
    refine wp_seq_k (fun KK hKK => ?_)
    have hKH : Hid _ := hKK
    clear hKK
    by_cases h64 : qs.length = 64
    · have hE := HRS.out
      rw [if_pos h64] at hE
      subst hE
      have hl64 : ((qs.length : Int) == 64) = true := by simp; omega
      have hLv := fun W => leave_any W p0t p0l p0c 106
      clear h64
      go_wp2_with (first | (refine wpList_load_run rfl 76 _ rfl ⟨b, off, none⟩ rfl _ hR5 ?_; clear hR5) | (go_at_call 28; refine (hLv _).mono ?_; clear hLv; rintro e w7 ⟨rfl, k7⟩))
      exact ⟨rfl, rfl, (K5.trans k7).mono (fun _ _ e => e.elim)⟩
    · have hF := HRS.out
      rw [if_neg h64] at hF
      have hl64 : ((qs.length : Int) == 64) = false := by simp; omega
      have HF : Hid (_ = _) := hF
      have hq2 : qs.length < 64 := by have := HQ.out; omega
      clear hF h64
      go_wp2_with fail
      refine hKH.out _ _ ?_
      clear hKH KK
      refine ins_mid (w0 := w0) hT (k0.trans K5) hI5 hU5 hcd hc1 hc2 (hw.keep K5) hsz HF.out hibR hib0 hibl hcI hjI hbR hbj hbi hq2 hjl (fun fl w' e k => ?_) (fun q ps w' cv' jv' e hX k => ?_)
      · subst e
        exact ⟨rfl, (K5.mono (fun _ _ e => e.elim)).trans k⟩
      · subst e
        refine ⟨rfl, cv', jv', hX, K5.trans' k (fun _ _ e => e.elim) (fun i hi e => ?_)⟩
        rcases e with e | e | e | e
        · exact .inl e
        · exact .inr (.inl e)
        · exact .inr (.inr e)
        · omega
end Go.Proofs.YtdmfkepnopppaaaGreatDoor
