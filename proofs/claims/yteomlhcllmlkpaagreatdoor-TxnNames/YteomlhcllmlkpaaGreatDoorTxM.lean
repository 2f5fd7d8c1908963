import Derived.Test.YteomlhcllmlkpaaGreatDoorTxL
import Derived.Test.YteomlhcllmlkpaaGreatDoorTxV
namespace Go.Proofs.YteomlhcllmlkpaaGreatDoor
open Go.RowKit Go.Maps Go.ChangeMaps Go.MapKept Go.WideShapes
attribute [local go_sem] Oper.semAt_some run_store_nf run_store_f
def tl2 (f : Func) : Code := match f.body with | some (.seq _ (.seq _ c)) => c | _ => .skip
/-- What scene answers: a world over a memory, a manager, a stream. -/
structure Sn (w : World) (H mb wb gb db : Nat) (W : World) : Prop where
  st : ∃ ρ, St W ρ 1 2 wb mb (nw [⟨7, 0, false⟩] 0 1) (nm Mm.new 1) ∧ (∀ k, k < w.heap.size → ρ k = 0) ∧ ρ gb = 0
  mg : Mg W gb 0 9
  k : Keeps (fun k => k = H + 1) w W
  g : w.heap.size ≤ gb
section
variable {w w' : World} {vb H mb sl B db : Nat} {W : World}
set_option maxHeartbeats 800000 in
set_option maxRecDepth 1000000 in
theorem scene_rest (h : S1 w mb B db W) (hu : CL w H [.int .i64 0, .int .i64 9, .slice none 0 0, .slice (some ⟨vb, 0, none⟩) 1 1]) (hr : CL w (H + 1) [.pointer none, .pointer none, .pointer none, .pointer none]) (hv : w.cell? ⟨vb, 0, none⟩ = some (.int .i64 7)) {R : Ending → World → Prop}
    (hP : ∀ wb gb w', Sn w H mb wb gb db w' → R (.returned (.tuple #[.agg #[.pointer (some ⟨mb, 0, none⟩), .pointer (some ⟨wb, 0, none⟩), .pointer (some ⟨gb, 0, none⟩), .pointer (some ⟨db, 0, none⟩)], .bool true])) w') :
    (tl2 Tryz.f5).wp Tryz.prog (bodyPost Tryz.prog Tryz.f5 R) { tmps := #[.agg #[.int .i64 0, .int .i64 9, .slice none 0 0, .slice (some ⟨vb, 0, none⟩) 1 1], .pointer (some ⟨H, 0, none⟩), .pointer (some ⟨H + 1, 0, none⟩), .bool false, .pointer (some ⟨B, 0, none⟩), undef, undef, undef, undef, .pointer (some ⟨mb, 0, none⟩), .slice (some ⟨sl, 0, none⟩) 0 0, .pointer (some ⟨H, 2, none⟩), .slice none 0 0, .slice (some ⟨sl, 0, none⟩) 0 0, .pointer (some ⟨db, 0, none⟩), .agg #[.pointer (some ⟨mb, 0, none⟩), .pointer none, .pointer none, .pointer (some ⟨db, 0, none⟩)], undef, undef, undef, undef, undef, undef, undef, undef, undef, undef, undef, undef, undef, undef, undef, undef, undef, undef, undef, undef, undef, undef, undef, undef, undef, undef, undef, undef, undef, undef, undef, undef, undef, undef, undef, undef, undef, undef, undef, undef, undef, undef, undef, undef, undef, undef, undef], defers := [] } W := by
  have q1 : ∀ (a : Addr) (w : World), (binOp .eql 23 (.pointer (some a)) (.pointer none)).run Tryz.prog w = .ok (.bool false) w := fun _ _ => rfl
  have q4 : ∀ (a : Addr) (w : World), (binOp .eql 26 (.pointer (some a)) (.pointer none)).run Tryz.prog w = .ok (.bool false) w := fun _ _ => rfl
  have q2 : ∀ (a : Addr) (w : World), (binOp .neq 24 (.pointer (some a)) (.pointer none)).run Tryz.prog w = .ok (.bool true) w := fun _ _ => rfl
  have q3 : ∀ (a : Addr) (w : World), (binOp .neq 25 (.pointer (some a)) (.pointer none)).run Tryz.prog w = .ok (.bool true) w := fun _ _ => rfl
  have hc := h.cl
  have c0 := hc.c 0 _ rfl
  have c3 := hc.c 3 _ rfl
  dsimp only [tl2, Tryz.f5]
  have lm := h.mi.lt _ (List.mem_cons_self ..)
  have lB := h.cl.lt (by show 0 < 4; decide)
  have lH := hu.lt (by show 0 < 4; decide)
  have lR := hr.lt (by show 0 < 4; decide)
  have lW := h.k.size
  have hne := h.ne
  have hhm := h.hm
  have hhB := h.hB
  have KD : Keeps (fun _ => False) w W.drew := h.k.drew
  have hV := values1 (w := W.drew) (KD.cell hv (fun e => e))
  have hU := hu.keep (by show 0 < 4; decide) KD (fun e => e)
  have hB := hc.drew
  have d0 := hB.c 0 _ rfl
  have u3 := hU.c 3 _ rfl
  have hmi := h.mi.new (Keeps.refl _ W).drew
  go_wp2_with fail
  clear c0 c3
  go_region_held3 (fun w' => w'.cell? ⟨B, 0, none⟩ = some (.pointer (some ⟨mb, 0, none⟩)) ∧ w'.cell? ⟨H, 3, none⟩ = some (.slice (some ⟨vb, 0, none⟩) 1 1)) (go_keep) (first | (go_at_call 17; refine hV.mono ?_; clear hV; rintro e Wv ⟨b, cap, rfl, hb, e0, e1, e2, kv⟩; have v0 := kv.cell d0 (fun e => e); have v3 := kv.cell u3 (fun e => e); have hNew := New_ok (w := Wv) (ρ := fun k => if k = mb then 1 else 0) (u := 1) (j := 2) (m := Mm.new) ⟨[mb], hmi.new kv, fun k hk => (by simp at hk; simp [hk])⟩ (by decide) (by decide) (by decide) (a := some ⟨b, 0, none⟩) (vs := [⟨7, 0, false⟩]) (.inr ⟨b, 0, rfl, if_neg (by have : W.drew.heap.size = W.heap.size := rfl; omega), fun i v hi => (by match i, hi with | 0, hi => (cases hi; exact ⟨e0, e1, e2⟩) | (i + 1), hi => simp at hi)⟩) cap (by decide) (by decide) (by decide)) | (go_at_call 16; refine hNew.mono ?_; clear hNew; rintro e Wn ⟨rfl, ρ2, st2, x2⟩; have nB : ¬ Sr 1 2 (if B = mb then 1 else 0) := (by rw [if_neg (fun e => hne e.symm)]; unfold Sr; omega); have nH : ¬ Sr 1 2 (if H = mb then 1 else 0) := (by rw [if_neg (by omega)]; unfold Sr; omega); have n0 := x2.cell (p := ⟨B, 0, none⟩) v0 nB; have n3 := x2.cell (p := ⟨H, 3, none⟩) v3 nH))
  have nR : ¬ Sr 1 2 (if H + 1 = mb then 1 else 0) := by rw [if_neg (by omega)]; unfold Sr; omega
  have hBn := (hB.keep (by show 0 < 4; decide) kv (fun e => e)).keep (by show 0 < 4; decide) x2.keeps nB
  have hUn := (hU.keep (by show 0 < 4; decide) kv (fun e => e)).keep (by show 0 < 4; decide) x2.keeps nH
  have hRn := ((hr.keep (by show 0 < 4; decide) KD (fun e => e)).keep (by show 0 < 4; decide) kv (fun e => e)).keep (by show 0 < 4; decide) x2.keeps nR
  have lv : W.heap.size ≤ Wv.heap.size := kv.size
  have ln := x2.keeps.size
  have KDv := KD.trans kv
  have w0 := hUn.c 0 _ rfl
  have w1 := hUn.c 1 _ rfl
  clear d0 u3 v0 v3 n0 n3 e0 e1 e2 hmi hB hU q1 q4 hc
  go_wp2_with fail
  refine (new0 _ ⟨by decide, by decide⟩).mono ?_
  rintro e Wg ⟨gb, rfl, hgb, hMg, kg⟩
  have hBg := hBn.keep (by show 0 < 4; decide) kg (fun e => e)
  have hRg := hRn.keep (by show 0 < 4; decide) kg (fun e => e)
  have g1 := hBg.c 1 _ rfl
  have g2 := hBg.c 2 _ rfl
  have z1 := hBg.z 1 (by show 1 < 4; decide)
  have z2 := hBg.z 2 (by show 2 < 4; decide)
  have h5 := (hBg.set (o := 1) (by show 1 < 4; decide) (.pointer (some ⟨Wv.heap.size, 0, none⟩))).set (o := 2) (by show 2 < 4; decide) (.pointer (some ⟨gb, 0, none⟩))
  have nRB : ¬ B = H + 1 := by omega
  have nBR : ¬ H + 1 = B := by omega
  have hR5 := (hRg.other (p := ⟨B, 1, none⟩) nRB (.pointer (some ⟨Wv.heap.size, 0, none⟩))).other (p := ⟨B, 2, none⟩) nRB (.pointer (some ⟨gb, 0, none⟩))
  have k5 := ((Keeps.refl (fun k => k = B) Wg).setA 1 (.pointer (some ⟨Wv.heap.size, 0, none⟩))).setA 2 (.pointer (some ⟨gb, 0, none⟩))
  clear w0 w1
  go_wp2_with fail
  clear g1 g2 z1 z2
  generalize (Wg.setCell ⟨B, 1, none⟩ (.pointer (some ⟨Wv.heap.size, 0, none⟩))).setCell ⟨B, 2, none⟩ (.pointer (some ⟨gb, 0, none⟩)) = W5 at *
  have h5d := h5.drew
  have hR5d := hR5.drew
  have s0 := h5d.c 0 _ rfl
  have s1 := h5d.c 1 _ rfl
  have s2 := h5d.c 2 _ rfl
  have s3 := h5d.c 3 _ rfl
  have t0 := hR5d.c 0 _ rfl
  have t1 := hR5d.c 1 _ rfl
  have t2 := hR5d.c 2 _ rfl
  have t3 := hR5d.c 3 _ rfl
  have y0 := hR5d.z 0 (by show 0 < 4; decide)
  have y1 := hR5d.z 1 (by show 1 < 4; decide)
  have y2 := hR5d.z 2 (by show 2 < 4; decide)
  have y3 := hR5d.z 3 (by show 3 < 4; decide)
  have hKZ : CL ((((W5.setCell ⟨H + 1, 0, none⟩ (.pointer (some ⟨mb, 0, none⟩))).setCell ⟨H + 1, 1, none⟩ (.pointer (some ⟨Wv.heap.size, 0, none⟩))).setCell ⟨H + 1, 2, none⟩ (.pointer (some ⟨gb, 0, none⟩))).setCell ⟨H + 1, 3, none⟩ (.pointer (some ⟨db, 0, none⟩))).drew B _ := ((((h5.other (p := ⟨H + 1, 0, none⟩) nBR (.pointer (some ⟨mb, 0, none⟩))).other (p := ⟨H + 1, 1, none⟩) nBR (.pointer (some ⟨Wv.heap.size, 0, none⟩))).other (p := ⟨H + 1, 2, none⟩) nBR (.pointer (some ⟨gb, 0, none⟩))).other (p := ⟨H + 1, 3, none⟩) nBR (.pointer (some ⟨db, 0, none⟩))).drew
  have KZ := And.intro (hKZ.c 0 _ rfl) (And.intro (hKZ.c 1 _ rfl) (And.intro (hKZ.c 2 _ rfl) (hKZ.c 3 _ rfl)))
  have t0' := hR5.c 0 _ rfl
  have t1' := hR5.c 1 _ rfl
  have t2' := hR5.c 2 _ rfl
  have t3' := hR5.c 3 _ rfl
  have y0' := hR5.z 0 (by show 0 < 4; decide)
  have y1' := hR5.z 1 (by show 1 < 4; decide)
  have y2' := hR5.z 2 (by show 2 < 4; decide)
  have y3' := hR5.z 3 (by show 3 < 4; decide)
  go_region_held3 (fun w' => w'.cell? ⟨B, 0, none⟩ = some (.pointer (some ⟨mb, 0, none⟩)) ∧ w'.cell? ⟨B, 1, none⟩ = some (.pointer (some ⟨Wv.heap.size, 0, none⟩)) ∧ w'.cell? ⟨B, 2, none⟩ = some (.pointer (some ⟨gb, 0, none⟩)) ∧ w'.cell? ⟨B, 3, none⟩ = some (.pointer (some ⟨db, 0, none⟩))) (first | go_keep | exact KZ) ((go_at_call 7; refine (num_tx _ _).mono ?_; rintro e Wq ⟨rfl, rfl⟩))
  have hF : CL ((((W5.setCell ⟨H + 1, 0, none⟩ (.pointer (some ⟨mb, 0, none⟩))).setCell ⟨H + 1, 1, none⟩ (.pointer (some ⟨Wv.heap.size, 0, none⟩))).setCell ⟨H + 1, 2, none⟩ (.pointer (some ⟨gb, 0, none⟩))).setCell ⟨H + 1, 3, none⟩ (.pointer (some ⟨db, 0, none⟩))).drew (H + 1) [.pointer (some ⟨mb, 0, none⟩), .pointer (some ⟨Wv.heap.size, 0, none⟩), .pointer (some ⟨gb, 0, none⟩), .pointer (some ⟨db, 0, none⟩)] := ((((hR5.set (o := 0) (by show 0 < 4; decide) _).set (o := 1) (by show 1 < 4; decide) _).set (o := 2) (by show 2 < 4; decide) _).set (o := 3) (by show 3 < 4; decide) _).drew
  have kF : Keeps (fun k => k = H + 1) W5 ((((W5.setCell ⟨H + 1, 0, none⟩ (.pointer (some ⟨mb, 0, none⟩))).setCell ⟨H + 1, 1, none⟩ (.pointer (some ⟨Wv.heap.size, 0, none⟩))).setCell ⟨H + 1, 2, none⟩ (.pointer (some ⟨gb, 0, none⟩))).setCell ⟨H + 1, 3, none⟩ (.pointer (some ⟨db, 0, none⟩))).drew := (((((Keeps.refl _ W5).setA _ _).setA _ _).setA _ _).setA _ _).drew
  clear hKZ KZ t0 t1 t2 t3 y0 y1 y2 y3 t0' t1' t2' t3' y0' y1' y2' y3' s0 s1 s2 s3 h5d hR5d
  generalize ((((W5.setCell ⟨H + 1, 0, none⟩ (.pointer (some ⟨mb, 0, none⟩))).setCell ⟨H + 1, 1, none⟩ (.pointer (some ⟨Wv.heap.size, 0, none⟩))).setCell ⟨H + 1, 2, none⟩ (.pointer (some ⟨gb, 0, none⟩))).setCell ⟨H + 1, 3, none⟩ (.pointer (some ⟨db, 0, none⟩))).drew = W6 at *
  have f0 := hF.c 0 _ rfl
  have f1 := hF.c 1 _ rfl
  have f2 := hF.c 2 _ rfl
  have f3 := hF.c 3 _ rfl
  go_wp2_with fail
  refine bodyPost_ret (v := .tuple #[.agg #[.pointer (some ⟨mb, 0, none⟩), .pointer (some ⟨Wv.heap.size, 0, none⟩), .pointer (some ⟨gb, 0, none⟩), .pointer (some ⟨db, 0, none⟩)], .bool true]) ?_ rfl (hP Wv.heap.size gb _ ?_)
  · rw [results_cell_tmp rfl]
    go_simp
  · have lg := kg.size
    have st3 := (st2.new kg).1
    have rB : ρ2 B = 0 := (x2.old B (by omega)).trans (if_neg (fun e => hne e.symm))
    have rR : ρ2 (H + 1) = 0 := (x2.old (H + 1) (by omega)).trans (if_neg (by omega))
    have st5 := (st3.wr k5 rB).wr kF rR
    have nBg : B ≠ gb := by omega
    have nRg : H + 1 ≠ gb := by omega
    refine ⟨⟨ρ2, st5, fun k hk => (x2.old k (by omega)).trans (if_neg (by omega)), st2.bnd gb hgb⟩, ⟨hMg.1, hMg.2.1, kF.cell (k5.cell hMg.2.2 (fun e => nBg e.symm)) (fun e => nRg e.symm)⟩, ?_, by omega⟩
    have kx : Keeps (fun k => k = H + 1) w Wn := KDv.trans' x2.keeps (fun _ _ e => e.elim) (fun i hi e => by
      exfalso
      rw [if_neg (by omega)] at e
      unfold Sr at e
      omega)
    exact ((kx.trans (kg.mono (fun _ _ e => e.elim))).trans' k5 (fun _ _ e => e) (fun i hi e => by omega)).trans kF
end
end Go.Proofs.YteomlhcllmlkpaaGreatDoor
