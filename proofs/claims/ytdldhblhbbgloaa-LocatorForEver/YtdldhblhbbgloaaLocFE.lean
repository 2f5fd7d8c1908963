import Derived.Test.YtdldhblhbbgloaaLocV
import Derived.Test.YtdldhblhbbgloaaLocFA
namespace Go.Proofs.Ytdldhblhbbgloaa
open Go.RowKit

/-- What stands between the steps. -/
structure FS (w W : World) (ρ : Nat → Nat) (rb wb mb : Nat) (s : Ws) (m : Mm) (k : Nat) (sv : Value) (sd : List Int) : Prop where
  rs : Rs W ρ 1 2 7 rb wb mb s m k
  kp : Keeps (fun _ => False) w W
  lo : ∀ i, i < w.heap.size → ρ i = 0
  ow : W.ownsRow w.heap.size 3 1 sv sd.length (fl ic sd)
  rg : ∀ g, sv.ownBlock = some g → ρ g = 0
section
variable {w W W' : World} {ρ ρ' : Nat → Nat} {rb wb mb : Nat} {s s' : Ws} {m m' : Mm} {k k' : Nat} {sv sv' : Value} {sd sd' : List Int}
theorem sq0 : ¬ Sq 1 2 7 0 := fun e => e.elim (fun e => e.elim (fun e => by cases e) (fun e => by omega)) (fun e => by cases e)
theorem FS.new (h : FS w W ρ rb wb mb s m k sv sd) (K : Keeps (fun _ => False) W W') : FS w W' ρ rb wb mb s m k sv sd :=
  ⟨(h.rs.new K).1, h.kp.trans K, h.lo, K.owns h.ow (fun _ _ e => e), h.rg⟩
theorem FS.step (h : FS w W ρ rb wb mb s m k sv sd) (hr : Rs W' ρ' 1 2 7 rb wb mb s' m' k') (x : Ext (Sq 1 2 7) W W' ρ ρ') : FS w W' ρ' rb wb mb s' m' k' sv sd :=
  ⟨hr, h.kp.trans' x.keeps (fun _ _ e => e) (fun i hi e => by rw [h.lo i hi] at e; exact sq0 e), fun i hi => (x.old i (Nat.lt_of_lt_of_le hi h.kp.size)).trans (h.lo i hi), x.keeps.owns h.ow (fun g hg e => by rw [h.rg g hg] at e; exact sq0 e), fun g hg => (x.old g (owns_lt' h.ow g hg)).trans (h.rg g hg)⟩
/-- The list is written into. -/
theorem FS.set (h : FS w W ρ rb wb mb s m k sv sd) {g x : Nat} (hg : sv.ownBlock = some g) (hx : x < sd.length) (v : Int) : FS w (W.setCell ⟨g, x, none⟩ (.int .i64 v)) ρ rb wb mb s m k sv (sd.set x v) := by
  have K := keeps_set W g x (.int .i64 v)
  have lg := own_lo h.ow hg
  refine ⟨h.rs.wr K (h.rg g hg), h.kp.trans' K (fun _ _ e => e) (fun i hi e => by omega), h.lo, ?_, h.rg⟩
  have own := h.ow
  obtain ⟨a, cp, e0, hgs⟩ : ∃ a cap, sv = .slice a sd.length cap ∧ (0 < sd.length → a = some ⟨g, 0, none⟩) := by
    rcases own.2 with ⟨h1, h0⟩ | ⟨g', cap, cur, h1, _⟩
    · rw [h1] at hg; cases hg
    · rw [h1] at hg; cases hg; exact ⟨_, _, h1, fun _ => rfl⟩
  subst e0
  rw [hgs (by omega)] at own ⊢
  have h1 := (own.stored x (.int .i64 v)).1
  have e1 := fl_set ic_len sd x 0 (sd.getD x 0) v (.int .i64 v) (getD_get hx) (by omega) rfl
  rw [Nat.mul_one, Nat.add_zero] at e1
  rw [List.length_set, e1]
  exact h1
/-- One more is said. -/
theorem FS.app (h : FS w W ρ rb wb mb s m k sv sd) {W1 : World} {gg cap : Nat} (K : Keeps (fun _ => False) W W1) (hg : W1.grownBy W' sv.ownBlock) (ho : W'.ownsRow w.heap.size 3 1 (.slice (some ⟨gg, 0, none⟩) (sd.length + 1) cap) (sd.length + 1) (fl ic sd ++ [.int .i64 1])) (hat : sv.ownBlock = some gg ∨ W.heap.size ≤ gg) :
    FS w W' ρ rb wb mb s m k (.slice (some ⟨gg, 0, none⟩) (sd.length + 1) cap) (sd ++ [1]) := by
  have K2 : Keeps (fun i => sv.ownBlock = some i) W1 W' := (Keeps.refl _ W1).grown hg (fun _ _ e => e)
  have KK : Keeps (fun i => sv.ownBlock = some i) W W' := K.trans' K2 (fun _ _ e => e.elim) (fun _ _ e => e)
  have x : Ext (fun r => r = 0) W W' ρ ρ := ⟨KK.mono (fun i _ e => h.rg i e), fun _ _ => rfl, fun i hi => .inr (h.rs.st.bnd i hi)⟩
  have n : ¬ ρ rb = 0 := by rw [h.rs.rr]; exact h.rs.q0
  have r := h.rs
  refine ⟨⟨⟨fun i hi => r.st.bnd i (Nat.le_trans KK.size hi), r.st.mj.ext x (fun e => r.st.u0 e), r.st.wj.ext x (fun q h1 h2 e => r.st.j0 (by omega)), r.st.u0, r.st.j0, r.st.ap⟩, x.cell r.c0 n, x.cell r.c1 n, x.cell r.c2 n, (x.keeps.frozen (p := ⟨rb, 2, none⟩) r.lt n).trans r.z2, r.rr, r.q0, r.qs, r.iv, r.bs, r.lg⟩, h.kp.trans' KK (fun _ _ e => e) (fun i hi e => by have := own_lo h.ow e; omega), h.lo, ?_, fun g e => ?_⟩
  · have e : fl ic (sd ++ [1]) = fl ic sd ++ [.int .i64 1] := by simp [fl, ic]
    rw [e]; simpa using ho
  · cases e
    rcases hat with e | e
    · exact h.rg _ e
    · exact h.rs.st.bnd _ e
theorem FS.slice (h : FS w W ρ rb wb mb s m k sv sd) : ∃ a cap, sv = .slice a sd.length cap ∧ (∀ x, x < sd.length → ∃ g, a = some ⟨g, 0, none⟩ ∧ sv.ownBlock = some g ∧ W.cell? ⟨g, x, none⟩ = some (.int .i64 (sd.getD x 0)) ∧ W.frozen? ⟨g, x, none⟩ = false) := by
  have own := h.ow
  rcases own.2 with ⟨h1, h0⟩ | ⟨g, cap, cur, h1, _⟩
  · exact ⟨none, 0, by rw [h1, h0], fun x hx => by omega⟩
  · refine ⟨some ⟨g, 0, none⟩, cap, h1, fun x hx => ⟨g, rfl, by rw [h1]; rfl, ?_, ?_⟩⟩
    · have e := fl_get ic_len sd x 0 (by omega)
      rw [getD_get (d := 0) hx, Nat.mul_one, Nat.add_zero] at e
      exact owns_cell own (by rw [h1]; rfl) e
    · rw [h1] at own; exact own.frozenAt x
end
theorem sd_start {w : World} {c : Nat} (h1 : 1 ≤ c) : Sd (nw (fv c) 0 c) (nm Mm.new c) [2] := by
  have _ := h1
  refine ⟨by simp [nw], fun x hx => ?_⟩
  have : x = 0 := by simp [nw] at hx; exact hx
  subst this
  have _ := w
  rw [nw_att]
  have := nm_val0 Mm.new c
  show some (2 : Int) = some ((nm Mm.new c).val 0)
  rw [← this]; rfl

set_option maxHeartbeats 6400000 in
set_option maxRecDepth 1000000 in
theorem foreverWalk {w : World} (n : Int) (_ : I64 n) {a : Option Addr} {l : List Oq} (hl : OL w a l) (_ : ∀ q ∈ l, q.ok) (hln : l.length ≤ 2199023255488) (cap : Nat) :
    Calls Try.prog 4 #[.int .i64 n, .slice a l.length cap] w fun e w' => e = .returned (.bool true) ∧ Below w.heap.size w w' := by
  obtain ⟨i8, hi8, hy0, hy1, hy2⟩ := info_parts infoO
  have hh := head_any w
  go_enter Try.func4, Try.ntmps4
  go_wp2_with (go_at_call 9; refine hh.mono ?_; clear hh; rintro e w1 ⟨rfl, k1⟩)
  refine (fresh_any (w := w1) (ρ := fun _ => 0) (u := 1) (j := 2) (q := 7) (fun _ _ => rfl) (by decide) (by decide) (by decide) (by decide) (fun e => e.elim (fun e => by cases e) (fun e => by omega)) n).mono ?_
  rintro e w2 ⟨c, rb, wb, mb, ρ2, hc, rfl, R2, x2⟩
  have hrq := reqn rb
  have k2 : Keeps (fun _ => False) w w2 := k1.trans' x2.keeps (fun _ _ e => e) (fun i hi e => sq0 e)
  have lo2 : ∀ i, i < w.heap.size → ρ2 i = 0 := fun i hi => x2.old i (Nat.lt_of_lt_of_le hi k1.size)
  obtain ⟨w3, hw3⟩ : ∃ w3, w3 = w2.alloc (.cells #[.int .i64 2] 3) := ⟨_, rfl⟩
  have K3 : Keeps (fun _ => False) w2 w3 := by rw [hw3]; exact (Keeps.refl _ w2).alloc _
  have ow3 : w3.ownsRow w.heap.size 3 1 (.slice (some ⟨w2.heap.size, 0, none⟩) 1 1) 1 (fl ic [2]) := by
    rw [hw3]
    exact World.ownsRow_lit (base := w.heap.size) (e := 3) (size := 1) w2 #[.int .i64 2] 1 k2.size (by unfold maxLen; omega) (by simp)
  have F3 : FS w w3 ρ2 rb wb mb (nw (fv c) 0 c) (nm Mm.new c) 0 (.slice (some ⟨w2.heap.size, 0, none⟩) 1 1) [2] := ⟨(R2.new K3).1, k2.trans K3, lo2, ow3, fun g e => by cases e; exact R2.st.bnd _ (Nat.le_refl _)⟩
  have SD3 : Hid (Sd (nw (fv c) 0 c) (nm Mm.new c) [2]) := sd_start (w := w) hc.1
  clear ow3 K3 lo2 k2 x2 R2 k1
  go_wp2_with fail
  rw [← hw3]
  clear hw3
  go_loopw [6, 7] (fun sv iv W => ∃ (i : Nat) (ρ : Nat → Nat) (s : Ws) (m : Mm) (k : Nat) (sd : List Int), i ≤ l.length ∧ k ≤ i ∧ iv = .int .i64 (i : Int) ∧ FS w W ρ rb wb mb s m k sv sd ∧ Hid (Sd s m sd)) (fun _ iv _ => l.length - (intOf iv).toNat)
  case atStart => exact ⟨0, ρ2, _, _, 0, [2], Nat.zero_le _, Nat.le_refl _, rfl, F3, SD3⟩
  case round =>
    clear F3 SD3
    obtain ⟨i, ρ, s, m, k, sd, hi, hki, rfl, F, SD⟩ := hrel
    obtain ⟨sa, cs, e0, hsl⟩ := F.slice
    subst e0
    by_cases hlt : i < l.length
    · have hltI : (i : Int) < (l.length : Int) := by omega
      obtain ⟨b, off, rfl, hb, hcs⟩ := hl.some (by omega)
      have OA := (hcs i hlt).keep F.kp (fun e => e)
      obtain ⟨c0, c1, c2, c3, c4, c5, c6, c7⟩ := OA
      obtain ⟨qo, hqo⟩ : ∃ qo, Hid (oa l i = qo) := ⟨_, rfl⟩
      rw [show oa l i = qo from hqo] at c0 c1 c2 c3 c4 c5 c6 c7
      obtain ⟨wB, hwB⟩ : ∃ wB, wB = wr.alloc (.cells #[.int .i64 qo.kind, .int .i64 qo.a, .int .i64 qo.b, .int .i64 qo.c, .int .i64 qo.v.num, .int .i64 qo.v.next, .bool qo.v.dead, .bool qo.shut] 30) := ⟨_, rfl⟩
      have KB : Keeps (fun _ => False) wr wB := by rw [hwB]; exact (Keeps.refl _ wr).alloc _
      have lB : wr.heap.size < wB.heap.size := by rw [hwB]; simp
      have g0 : wB.cell? ⟨wr.heap.size, 0, none⟩ = some (.int .i64 qo.kind) := by rw [hwB]; simp
      have g1 : wB.cell? ⟨wr.heap.size, 1, none⟩ = some (.int .i64 qo.a) := by rw [hwB]; simp
      have FB := F.new KB
      have OWR : Hid (wr.ownsRow w.heap.size 3 1 (.slice sa sd.length cs) sd.length (fl ic sd)) := F.ow
      have rB : ρ wr.heap.size = 0 := F.rs.st.bnd _ (Nat.le_refl _)
      have hdo := does_any FB.rs (by omega) qo
      have HF : Hid (FS w wB ρ rb wb mb s m k (.slice sa sd.length cs) sd) := FB
      have sz : wB.heap.size = wr.heap.size + 1 := by rw [hwB]; simp
      clear FB F hcs hsl sz
      simp only [opv] at hdo
      go_wp2_with fail
      rw [← hwB]
      refine hdo.mono ?_
      clear hdo hwB c0 c1 c2 c3 c4 c5 c6 c7
      rintro e W4 ⟨er, d, nn, rfl, ρ4, s4, m1, m4, k4, hop, hdo, R4, x4⟩
      have i1 := hop.inv HF.out.rs.iv
      have S1 : Hid (Sd s m1 sd) := SD.out.open hop
      have I1 : Hid (Inv s m1) := i1
      have hk4 : k4 ≤ i + 1 := by have := hop.le; omega
      have HDO : Hid (Do s m1 qo s4 m4 er d nn) := hdo
      have nB : ¬ Sq 1 2 7 (ρ wr.heap.size) := by rw [rB]; exact sq0
      have p0 := x4.cell (p := ⟨wr.heap.size, 0, none⟩) g0 nB
      have p1 := x4.cell (p := ⟨wr.heap.size, 1, none⟩) g1 nB
      have lB4 := Nat.lt_of_lt_of_le lB x4.keeps.size
      obtain ⟨wC, hwC⟩ : ∃ wC, wC = W4.alloc (.cells #[.int .i64 er, .bool d, .int .i64 nn] 32) := ⟨_, rfl⟩
      have KC : Keeps (fun _ => False) W4 wC := by rw [hwC]; exact (Keeps.refl _ W4).alloc _
      have q0 := KC.cell p0 (fun e => e)
      have q1 := KC.cell p1 (fun e => e)
      have z0 : ∀ ob, (W4.alloc ob).cell? ⟨wr.heap.size, 0, none⟩ = some (.int .i64 qo.kind) := fun ob => ((Keeps.refl (fun _ => False) W4).alloc ob).cell p0 (fun e => e)
      have z1 : ∀ ob, (W4.alloc ob).cell? ⟨wr.heap.size, 1, none⟩ = some (.int .i64 qo.a) := fun ob => ((Keeps.refl (fun _ => False) W4).alloc ob).cell p1 (fun e => e)
      have t0 : wC.cell? ⟨W4.heap.size, 0, none⟩ = some (.int .i64 er) := by rw [hwC]; simp
      have t1 : wC.cell? ⟨W4.heap.size, 1, none⟩ = some (.bool d) := by rw [hwC]; simp
      have t2 : wC.cell? ⟨W4.heap.size, 2, none⟩ = some (.int .i64 nn) := by rw [hwC]; simp
      have F4 : FS w wC ρ4 rb wb mb s4 m4 k4 (.slice sa sd.length cs) sd := (HF.out.step R4 x4).new KC
      have sC : wC.heap.size = W4.heap.size + 1 := by rw [hwC]; simp
      have O4 : Hid (wC.ownsRow w.heap.size 3 1 (.slice sa sd.length cs) sd.length (fl ic sd)) := F4.ow
      have H4 : Hid (FS w wC ρ4 rb wb mb s4 m4 k4 (.slice sa sd.length cs) sd) := F4
      have HN3 : Hid (¬ (Value.slice sa sd.length cs).ownBlock = some wr.heap.size) := fun e => by have := owns_lt' OWR.out _ e; omega
      have HN4 : Hid (¬ (Value.slice sa sd.length cs).ownBlock = some W4.heap.size) := fun e => by have := owns_lt' OWR.out _ e; have := x4.keeps.size; omega
      have SL4 : Hid (∀ x, x < sd.length → ∃ g, sa = some ⟨g, 0, none⟩ ∧ (Value.slice sa sd.length cs).ownBlock = some g ∧ wC.cell? ⟨g, x, none⟩ = some (.int .i64 (sd.getD x 0)) ∧ wC.frozen? ⟨g, x, none⟩ = false) := fun x hx => by
        obtain ⟨a', c', e', h'⟩ := F4.slice
        injection e' with e1 e2 e3
        subst e1 e3
        exact h' x hx
      obtain ⟨kd, oa_, ob_, oc_, ov_, sh_⟩ := qo
      simp only [] at q0 q1 z0 z1
      clear p0 p1 g0 g1 hdo i1 F4 R4 x4 HF
      by_cases hk1 : kd = 1
      · subst hk1
        by_cases he : er = 0
        · subst he
          obtain ⟨rfl, hlen, S4⟩ := S1.out.made I1.out HDO.out rfl rfl
          have S5 : Hid (Sd s4 m4 (sd ++ [1])) := S4
          have h63 : sd.length + 1 ≤ maxLen := by unfold maxLen; omega
          have hby : (sd.length + 1) * 8 ≤ 140737488355328 := by omega
          have lw : w.heap.size ≤ wC.heap.size := H4.out.kp.size
          clear S4 S1 HDO I1 SL4
          go_wp2_with ((at_builtin; rw [← hwC]; refine wpList_append_lies _ rfl _ _ _ rfl w.heap.size 3 i8 _ 1 8 underO hi8 hy0 hy1 hy2 rfl (by decide) (.slice sa sd.length cs) sd.length (fl ic sd) rfl (O4.out.alloc _) ⟨W4.heap.size + 1, 0, none⟩ 1 1 [.int .i64 1] rfl rfl (World.news_of_block (cs := #[.int .i64 1]) (t := 3) (fr := (0, 0)) (by rw [← sC]; exact heap_alloc_new wC _)) (by simp [Value.oneCell']) (by omega) h63 hby (by simp; omega) _ rfl ?_))
          intro gg cap1 w6 hown1 hgrow hat hlt1
          rw [← hwC] at hgrow
          have KL : Keeps (fun _ => False) wC (wC.alloc (.cells #[.int .i64 1] 3)) := (Keeps.refl _ wC).alloc _
          have F6 := H4.out.app KL hgrow hown1 (hat.imp id (fun e => by omega))
          have nb3 : ¬ (Value.slice sa sd.length cs).ownBlock = some wr.heap.size := HN3.out
          have nb4 : ¬ (Value.slice sa sd.length cs).ownBlock = some W4.heap.size := HN4.out
          have q0' := hgrow.cell (KL.cell q0 (fun e => e)) (Ne.symm nb3)
          have q1' := hgrow.cell (KL.cell q1 (fun e => e)) (Ne.symm nb3)
          have t0' := hgrow.cell (KL.cell t0 (fun e => e)) (Ne.symm nb4)
          clear hgrow hat hlt1 hown1 hwC q0 q1 t0 t1 t2 O4 H4
          go_wp2_with fail
          have y0' := ks_cell q0'
          have hNE : Nonempty (KS w6) := ⟨⟨w6, Keeps.refl _ w6⟩⟩
          refine wp_region_ks (by kernel_rfl) (by kernel_rfl) ?_
          repeat (go_big_quiet_step (fail))
          refine wpQuiet_nil ?_
          rintro _ ⟨U, rfl⟩
          have FU := F6.new U.property
          clear y0' hNE
          generalize U.val = wu at *
          go_wp2_with fail
          go_roundw
          case rel => exact ⟨i + 1, ρ4, s4, m4, k4, (sd ++ [1]), by omega, by omega, by go_num, by simpa using FU, S5.out⟩
          case measure => simp [intOf]; omega
        · have e0 : (er == 0) = false := beq_eq_false_iff_ne.2 he
          have e1 : decide (er = 0) = false := decide_eq_false he
          have S5 : Hid (Sd s4 m4 sd) := S1.out.refused HDO.out he
          have F4 := H4.out
          clear S1 HDO I1 SL4 O4 H4
          go_wp2_with fail
          rw [← hwC]
          clear hwC z0 z1
          have y1' := ks_cell q1
          have y4' := ks_cell t0
          have y0' := ks_cell q0
          have hNE : Nonempty (KS wC) := ⟨⟨wC, Keeps.refl _ wC⟩⟩
          refine wp_region_ks (by kernel_rfl) (by kernel_rfl) ?_
          repeat (go_big_quiet_step (fail))
          refine wpQuiet_nil ?_
          rintro _ ⟨U, rfl⟩
          have FU := F4.new U.property
          clear y0' hNE
          generalize U.val = wu at *
          go_wp2_with fail
          go_roundw
          case rel => exact ⟨i + 1, ρ4, s4, m4, k4, sd, by omega, by omega, by go_num, by simpa using FU, S5.out⟩
          case measure => simp [intOf]; omega
      by_cases hk2 : kd = 11
      · subst hk2
        by_cases he : er = 0
        · subst he
          obtain ⟨x, rfl, hx1, hx2, hd, Sy, Sn⟩ := S1.out.ended I1.out HDO.out (sv := 3) (.inl ⟨rfl, rfl⟩) rfl
          obtain ⟨g, rfl, hg, cg, zg⟩ := SL4.out x hx2
          have u1 : decide ((x : Int) < 1) = false := decide_eq_false (by omega)
          have u1' : decide (x < 1) = false := decide_eq_false (by omega)
          have u2 : decide ((sd.length : Int) ≤ (x : Int)) = false := decide_eq_false (by omega)
          have u2' : decide (sd.length ≤ x) = false := decide_eq_false (by omega)
          have u3 : (x : Int) < (sd.length : Int) := by omega
          have SY : Hid (d = true → Sd s4 m4 (sd.set x 3)) := Sy
          have SN : Hid (d = false → Sd s4 m4 sd) := Sn
          have HD : Hid (d = decide (sd.getD x 0 = 1)) := hd
          have cg' := ks_cell cg
          have t1' := ks_cell t1
          have y0' := ks_cell q0
          have y1' := ks_cell q1
          have y4' := ks_cell t0
          have hNE : Nonempty (KS wC) := ⟨⟨wC, Keeps.refl _ wC⟩⟩
          have F4 := H4.out
          clear S1 HDO I1 SL4 O4 H4 Sy Sn hd
          generalize sd.getD x 0 = sx at *
          cases d with
          | true =>
            obtain rfl : sx = 1 := by have := HD.out; exact of_decide_eq_true this.symm
            go_wp2_with fail
            rw [← hwC]
            clear hwC z0 z1
            refine wp_region_ks (by kernel_rfl) (by kernel_rfl) ?_
            repeat (go_big_quiet_step (fail))
            refine wpQuiet_nil ?_
            rintro _ ⟨U, rfl⟩
            have FU := (F4.new U.property)
            have cU := cg' U
            have zU : U.val.frozen? ⟨g, x, none⟩ = false := (U.property.frozen (p := ⟨g, x, none⟩) (World.block_lt_of_cell? _ _ cg) (fun e => e)).trans zg
            have tU := t1' U
            have aU := y0' U
            have bU := y1' U
            have F6 := FU.set hg hx2 3
            have K6 := keeps_set U.val g x (.int .i64 3)
            have n3 : ¬ wr.heap.size = g := fun e => HN3.out (by rw [e]; exact hg)
            have n4 : ¬ W4.heap.size = g := fun e => HN4.out (by rw [e]; exact hg)
            have aU6 := K6.cell (p := ⟨wr.heap.size, 0, none⟩) aU n3
            have tU6 := K6.cell (p := ⟨W4.heap.size, 1, none⟩) tU n4
            clear cg' t1' y0' y1' y4' hNE cg zg F4 FU
            generalize U.val = wu at *
            obtain ⟨wv, hwv⟩ : ∃ wv, wv = wu.setCell ⟨g, x, none⟩ (.int .i64 3) := ⟨_, rfl⟩
            rw [← hwv] at F6 K6 aU6 tU6
            have HS : Hid (Sd s4 m4 (sd.set x 3)) := SY.out (by first | trivial | rfl)
            go_wp2_with fail
            rw [← hwv]
            clear hwv
            have y0' := ks_cell aU6
            have hNE : Nonempty (KS wv) := ⟨⟨wv, Keeps.refl _ wv⟩⟩
            refine wp_region_ks (by kernel_rfl) (by kernel_rfl) ?_
            repeat (go_big_quiet_step (fail))
            refine wpQuiet_nil ?_
            rintro _ ⟨U, rfl⟩
            have FU := F6.new U.property
            clear y0' hNE
            generalize U.val = wu at *
            go_wp2_with fail
            go_roundw
            case rel => exact ⟨i + 1, ρ4, s4, m4, k4, (sd.set x 3), by omega, by omega, by go_num, by simpa using FU, HS.out⟩
            case measure => simp [intOf]; omega
          | false =>
            have ns : ¬ sx = 1 := by have := HD.out; exact of_decide_eq_false this.symm
            have v1 : (sx == 1) = false := beq_eq_false_iff_ne.2 ns
            have v2 : decide (sx = 1) = false := decide_eq_false ns
            go_wp2_with fail
            rw [← hwC]
            clear hwC z0 z1
            refine wp_region_ks (by kernel_rfl) (by kernel_rfl) ?_
            repeat (go_big_quiet_step (fail))
            refine wpQuiet_nil ?_
            rintro _ ⟨U, rfl⟩
            have FU := (F4.new U.property)
            have tU := t1' U
            have aU := y0' U
            clear cg' t1' y0' y1' y4' hNE cg zg F4
            generalize U.val = wu at *
            have HS : Hid (Sd s4 m4 sd) := SN.out (by first | trivial | rfl)
            go_wp2_with fail
            have y0' := ks_cell aU
            have hNE : Nonempty (KS wu) := ⟨⟨wu, Keeps.refl _ wu⟩⟩
            refine wp_region_ks (by kernel_rfl) (by kernel_rfl) ?_
            repeat (go_big_quiet_step (fail))
            refine wpQuiet_nil ?_
            rintro _ ⟨U, rfl⟩
            have FU := FU.new U.property
            clear y0' hNE
            generalize U.val = wu at *
            go_wp2_with fail
            go_roundw
            case rel => exact ⟨i + 1, ρ4, s4, m4, k4, sd, by omega, by omega, by go_num, by simpa using FU, HS.out⟩
            case measure => simp [intOf]; omega
        · have e0 : (er == 0) = false := beq_eq_false_iff_ne.2 he
          have e1 : decide (er = 0) = false := decide_eq_false he
          have S5 : Hid (Sd s4 m4 sd) := S1.out.refused HDO.out he
          have F4 := H4.out
          clear S1 HDO I1 SL4 O4 H4
          go_wp2_with fail
          rw [← hwC]
          clear hwC z0 z1
          have y1' := ks_cell q1
          have y4' := ks_cell t0
          have y0' := ks_cell q0
          have hNE : Nonempty (KS wC) := ⟨⟨wC, Keeps.refl _ wC⟩⟩
          refine wp_region_ks (by kernel_rfl) (by kernel_rfl) ?_
          repeat (go_big_quiet_step (fail))
          refine wpQuiet_nil ?_
          rintro _ ⟨U, rfl⟩
          have FU := F4.new U.property
          clear y0' hNE
          generalize U.val = wu at *
          go_wp2_with fail
          go_roundw
          case rel => exact ⟨i + 1, ρ4, s4, m4, k4, sd, by omega, by omega, by go_num, by simpa using FU, S5.out⟩
          case measure => simp [intOf]; omega
      by_cases hk3 : kd = 12
      · subst hk3
        by_cases he : er = 0
        · subst he
          obtain ⟨x, rfl, hx1, hx2, hd, Sy, Sn⟩ := S1.out.ended I1.out HDO.out (sv := 2) (.inr ⟨rfl, rfl⟩) rfl
          obtain ⟨g, rfl, hg, cg, zg⟩ := SL4.out x hx2
          have u1 : decide ((x : Int) < 1) = false := decide_eq_false (by omega)
          have u1' : decide (x < 1) = false := decide_eq_false (by omega)
          have u2 : decide ((sd.length : Int) ≤ (x : Int)) = false := decide_eq_false (by omega)
          have u2' : decide (sd.length ≤ x) = false := decide_eq_false (by omega)
          have u3 : (x : Int) < (sd.length : Int) := by omega
          have SY : Hid (d = true → Sd s4 m4 (sd.set x 2)) := Sy
          have SN : Hid (d = false → Sd s4 m4 sd) := Sn
          have HD : Hid (d = decide (sd.getD x 0 = 1)) := hd
          have cg' := ks_cell cg
          have t1' := ks_cell t1
          have y0' := ks_cell q0
          have y1' := ks_cell q1
          have y4' := ks_cell t0
          have hNE : Nonempty (KS wC) := ⟨⟨wC, Keeps.refl _ wC⟩⟩
          have F4 := H4.out
          clear S1 HDO I1 SL4 O4 H4 Sy Sn hd
          generalize sd.getD x 0 = sx at *
          cases d with
          | true =>
            obtain rfl : sx = 1 := by have := HD.out; exact of_decide_eq_true this.symm
            go_wp2_with fail
            rw [← hwC]
            clear hwC z0 z1
            refine wp_region_ks (by kernel_rfl) (by kernel_rfl) ?_
            repeat (go_big_quiet_step (fail))
            refine wpQuiet_nil ?_
            rintro _ ⟨U, rfl⟩
            have FU := (F4.new U.property)
            have cU := cg' U
            have zU : U.val.frozen? ⟨g, x, none⟩ = false := (U.property.frozen (p := ⟨g, x, none⟩) (World.block_lt_of_cell? _ _ cg) (fun e => e)).trans zg
            have tU := t1' U
            have aU := y0' U
            have bU := y1' U
            have F6 := FU.set hg hx2 2
            have K6 := keeps_set U.val g x (.int .i64 2)
            have n3 : ¬ wr.heap.size = g := fun e => HN3.out (by rw [e]; exact hg)
            have n4 : ¬ W4.heap.size = g := fun e => HN4.out (by rw [e]; exact hg)
            have aU6 := K6.cell (p := ⟨wr.heap.size, 0, none⟩) aU n3
            have tU6 := K6.cell (p := ⟨W4.heap.size, 1, none⟩) tU n4
            clear cg' t1' y0' y1' y4' hNE cg zg F4 FU
            generalize U.val = wu at *
            obtain ⟨wv, hwv⟩ : ∃ wv, wv = wu.setCell ⟨g, x, none⟩ (.int .i64 2) := ⟨_, rfl⟩
            rw [← hwv] at F6 K6 aU6 tU6
            have HS : Hid (Sd s4 m4 (sd.set x 2)) := SY.out (by first | trivial | rfl)
            go_wp2_with fail
            rw [← hwv]
            clear hwv
            have y0' := ks_cell aU6
            have hNE : Nonempty (KS wv) := ⟨⟨wv, Keeps.refl _ wv⟩⟩
            refine wp_region_ks (by kernel_rfl) (by kernel_rfl) ?_
            repeat (go_big_quiet_step (fail))
            refine wpQuiet_nil ?_
            rintro _ ⟨U, rfl⟩
            have FU := F6.new U.property
            clear y0' hNE
            generalize U.val = wu at *
            go_wp2_with fail
            go_roundw
            case rel => exact ⟨i + 1, ρ4, s4, m4, k4, (sd.set x 2), by omega, by omega, by go_num, by simpa using FU, HS.out⟩
            case measure => simp [intOf]; omega
          | false =>
            have ns : ¬ sx = 1 := by have := HD.out; exact of_decide_eq_false this.symm
            have v1 : (sx == 1) = false := beq_eq_false_iff_ne.2 ns
            have v2 : decide (sx = 1) = false := decide_eq_false ns
            go_wp2_with fail
            rw [← hwC]
            clear hwC z0 z1
            refine wp_region_ks (by kernel_rfl) (by kernel_rfl) ?_
            repeat (go_big_quiet_step (fail))
            refine wpQuiet_nil ?_
            rintro _ ⟨U, rfl⟩
            have FU := (F4.new U.property)
            have tU := t1' U
            have aU := y0' U
            clear cg' t1' y0' y1' y4' hNE cg zg F4
            generalize U.val = wu at *
            have HS : Hid (Sd s4 m4 sd) := SN.out (by first | trivial | rfl)
            go_wp2_with fail
            have y0' := ks_cell aU
            have hNE : Nonempty (KS wu) := ⟨⟨wu, Keeps.refl _ wu⟩⟩
            refine wp_region_ks (by kernel_rfl) (by kernel_rfl) ?_
            repeat (go_big_quiet_step (fail))
            refine wpQuiet_nil ?_
            rintro _ ⟨U, rfl⟩
            have FU := FU.new U.property
            clear y0' hNE
            generalize U.val = wu at *
            go_wp2_with fail
            go_roundw
            case rel => exact ⟨i + 1, ρ4, s4, m4, k4, sd, by omega, by omega, by go_num, by simpa using FU, HS.out⟩
            case measure => simp [intOf]; omega
        · have e0 : (er == 0) = false := beq_eq_false_iff_ne.2 he
          have e1 : decide (er = 0) = false := decide_eq_false he
          have S5 : Hid (Sd s4 m4 sd) := S1.out.refused HDO.out he
          have F4 := H4.out
          clear S1 HDO I1 SL4 O4 H4
          go_wp2_with fail
          rw [← hwC]
          clear hwC z0 z1
          have y1' := ks_cell q1
          have y4' := ks_cell t0
          have y0' := ks_cell q0
          have hNE : Nonempty (KS wC) := ⟨⟨wC, Keeps.refl _ wC⟩⟩
          refine wp_region_ks (by kernel_rfl) (by kernel_rfl) ?_
          repeat (go_big_quiet_step (fail))
          refine wpQuiet_nil ?_
          rintro _ ⟨U, rfl⟩
          have FU := F4.new U.property
          clear y0' hNE
          generalize U.val = wu at *
          go_wp2_with fail
          go_roundw
          case rel => exact ⟨i + 1, ρ4, s4, m4, k4, sd, by omega, by omega, by go_num, by simpa using FU, S5.out⟩
          case measure => simp [intOf]; omega
      by_cases hk4 : kd = 10
      · subst hk4
        by_cases he : er = 0
        · subst he
          obtain ⟨x, rfl, hx2, rfl⟩ := S1.out.told HDO.out rfl rfl
          obtain ⟨g, rfl, hg, cg, zg⟩ := SL4.out x hx2
          have u1 : decide ((x : Int) < 0) = false := decide_eq_false (by omega)
          have u2 : decide ((sd.length : Int) ≤ (x : Int)) = false := decide_eq_false (by omega)
          have u2' : decide (sd.length ≤ x) = false := decide_eq_false (by omega)
          have u3 : (x : Int) < (sd.length : Int) := by omega
          have S5 : Hid (Sd s4 m4 sd) := S1.out.other I1.out HDO.out (show (10 : Int) ≠ 1 by decide) (show (10 : Int) ≠ 11 by decide) (show (10 : Int) ≠ 12 by decide)
          have cg' := ks_cell cg
          have t2' := ks_cell t2
          have y0' := ks_cell q0
          have y1' := ks_cell q1
          have y4' := ks_cell t0
          have hNE : Nonempty (KS wC) := ⟨⟨wC, Keeps.refl _ wC⟩⟩
          have F4 := H4.out
          clear S1 HDO I1 SL4 O4 H4
          generalize sd.getD x 0 = sx at *
          go_wp2_with fail
          rw [← hwC]
          clear hwC z0 z1
          refine wp_region_ks (by kernel_rfl) (by kernel_rfl) ?_
          repeat (go_big_quiet_step (fail))
          refine wpQuiet_nil ?_
          rintro _ ⟨U, rfl⟩
          have FU := (F4.new U.property)
          clear cg' t2' y0' y1' y4' hNE cg zg F4
          generalize U.val = wu at *
          go_wp2_with fail
          go_roundw
          case rel => exact ⟨i + 1, ρ4, s4, m4, k4, sd, by omega, by omega, by go_num, FU, S5.out⟩
          case measure => simp [intOf]; omega
        · have e0 : (er == 0) = false := beq_eq_false_iff_ne.2 he
          have e1 : decide (er = 0) = false := decide_eq_false he
          have S5 : Hid (Sd s4 m4 sd) := S1.out.refused HDO.out he
          have F4 := H4.out
          clear S1 HDO I1 SL4 O4 H4
          go_wp2_with fail
          rw [← hwC]
          clear hwC z0 z1
          have y1' := ks_cell q1
          have y4' := ks_cell t0
          have y0' := ks_cell q0
          have hNE : Nonempty (KS wC) := ⟨⟨wC, Keeps.refl _ wC⟩⟩
          refine wp_region_ks (by kernel_rfl) (by kernel_rfl) ?_
          repeat (go_big_quiet_step (fail))
          refine wpQuiet_nil ?_
          rintro _ ⟨U, rfl⟩
          have FU := F4.new U.property
          clear y0' hNE
          generalize U.val = wu at *
          go_wp2_with fail
          go_roundw
          case rel => exact ⟨i + 1, ρ4, s4, m4, k4, sd, by omega, by omega, by go_num, by simpa using FU, S5.out⟩
          case measure => simp [intOf]; omega
      · have w1_ : (kd == 1) = false := beq_eq_false_iff_ne.2 hk1
        have w2_ : (kd == 11) = false := beq_eq_false_iff_ne.2 hk2
        have w3_ : (kd == 12) = false := beq_eq_false_iff_ne.2 hk3
        have w4_ : (kd == 10) = false := beq_eq_false_iff_ne.2 hk4
        have w5_ : decide (kd = 1) = false := decide_eq_false hk1
        have w6_ : decide (kd = 11) = false := decide_eq_false hk2
        have w7_ : decide (kd = 12) = false := decide_eq_false hk3
        have w8_ : decide (kd = 10) = false := decide_eq_false hk4
        have S5 : Hid (Sd s4 m4 sd) := S1.out.other I1.out HDO.out hk1 hk2 hk3
        have F4 := H4.out
        clear S1 HDO I1 SL4 O4 H4
        go_wp2_with fail
        rw [← hwC]
        clear hwC z0 z1
        have y1' := ks_cell q1
        have y4' := ks_cell t0
        have y0' := ks_cell q0
        have hNE : Nonempty (KS wC) := ⟨⟨wC, Keeps.refl _ wC⟩⟩
        refine wp_region_ks (by kernel_rfl) (by kernel_rfl) ?_
        repeat (go_big_quiet_step (fail))
        refine wpQuiet_nil ?_
        rintro _ ⟨U, rfl⟩
        have FU := F4.new U.property
        clear y0' hNE
        generalize U.val = wu at *
        go_wp2_with fail
        go_roundw
        case rel => exact ⟨i + 1, ρ4, s4, m4, k4, sd, by omega, by omega, by go_num, by simpa using FU, S5.out⟩
        case measure => simp [intOf]; omega

    · have hltI : ¬ (i : Int) < (l.length : Int) := by omega
      obtain rfl : l.length = i := by omega
      have hsl2 : Hid (∀ x, x < sd.length → ∃ g, sa = some ⟨g, 0, none⟩ ∧ (Value.slice sa sd.length cs).ownBlock = some g ∧ wr.cell? ⟨g, x, none⟩ = some (.int .i64 (sd.getD x 0)) ∧ wr.frozen? ⟨g, x, none⟩ = false) := hsl
      have hna : sd.length ≤ 16384 := by rw [SD.out.1]; exact F.rs.iv.na
      have FF : Hid (FS w wr ρ rb wb mb s m k (.slice sa sd.length cs) sd) := F
      clear hsl F
      go_wp2_with fail
      go_loopw [10] (fun iv W => ∃ (i2 : Nat) (ρ : Nat → Nat) (s : Ws) (m : Mm) (k : Nat), i2 ≤ sd.length ∧ k ≤ l.length + i2 ∧ iv = .int .i64 (i2 : Int) ∧ FS w W ρ rb wb mb s m k (.slice sa sd.length cs) sd ∧ Hid (Sd s m sd)) (fun iv _ => sd.length - (intOf iv).toNat)
      case atStart => exact ⟨0, ρ, s, m, k, Nat.zero_le _, by omega, rfl, FF.out, SD⟩
      case round =>
        clear FF SD hsl2 hki
        obtain ⟨i2, ρ, s, m, k, hi2, hki, rfl, F, SD⟩ := hrel
        by_cases hlt2 : i2 < sd.length
        · have hltI2 : (i2 : Int) < (sd.length : Int) := by omega
          have hdo := does_any F.rs (by omega) ⟨10, (i2 : Int), 0, 0, ⟨0, 0, false⟩, false⟩
          simp only [opv] at hdo
          have HF : Hid (FS w wr ρ rb wb mb s m k (.slice sa sd.length cs) sd) := F
          clear F
          go_wp2_with fail
          refine hdo.mono ?_
          clear hdo
          rintro e W4 ⟨er, d, nn, rfl, ρ4, s4, m1, m4, k4, hop, hdo, R4, x4⟩
          have hk4 : k4 ≤ k + 1 := hop.le
          have i1 := hop.inv HF.out.rs.iv
          have S1 := SD.out.open hop
          have hm1 : m1.free = true := by
            rcases hop with ⟨_, e, _⟩ | ⟨e, _, _⟩
            · rw [e]; rfl
            · simp [acc] at e
          have her : er = 0 := hdo.tells rfl ⟨by show (0 : Int) ≤ (i2 : Int); omega, by show (i2 : Int) < _; rw [← S1.1]; omega⟩ hm1
          subst her
          obtain ⟨x, ex, hx2, rfl⟩ := S1.told hdo rfl rfl
          have ex' : x = i2 := by have : (i2 : Int) = (x : Int) := ex; omega
          subst ex'
          have S5 : Hid (Sd s4 m4 sd) := S1.other i1 hdo (show (10 : Int) ≠ 1 by decide) (show (10 : Int) ≠ 11 by decide) (show (10 : Int) ≠ 12 by decide)
          obtain ⟨wC, hwC⟩ : ∃ wC, wC = W4.alloc (.cells #[.int .i64 0, .bool d, .int .i64 (sd.getD x 0)] 32) := ⟨_, rfl⟩
          have KC : Keeps (fun _ => False) W4 wC := by rw [hwC]; exact (Keeps.refl _ W4).alloc _
          have F4 := (HF.out.step R4 x4).new KC
          obtain ⟨a', c', e', h'⟩ := F4.slice
          injection e' with e1 e2 e3
          subst e1 e3
          obtain ⟨g, rfl, hg, cg, zg⟩ := h' x hlt2
          have t0 : wC.cell? ⟨W4.heap.size, 0, none⟩ = some (.int .i64 0) := by rw [hwC]; simp
          have t2 : wC.cell? ⟨W4.heap.size, 2, none⟩ = some (.int .i64 (sd.getD x 0)) := by rw [hwC]; simp
          have cg' := ks_cell cg
          have t2' := ks_cell t2
          have t0' := ks_cell t0
          have hNE : Nonempty (KS wC) := ⟨⟨wC, Keeps.refl _ wC⟩⟩
          clear hdo S1 i1 R4 x4 hop hm1 ex h' e2 cg zg HF t0 t2
          generalize sd.getD x 0 = sx at *
          go_wp2_with fail
          rw [← hwC]
          clear hwC
          refine wp_region_ks (by kernel_rfl) (by kernel_rfl) ?_
          repeat (go_big_quiet_step (fail))
          refine wpQuiet_nil ?_
          rintro _ ⟨U, rfl⟩
          have FU := F4.new U.property
          clear cg' t2' t0' hNE F4
          generalize U.val = wu at *
          go_wp2_with fail
          go_roundw
          case rel => exact ⟨x + 1, ρ4, s4, m4, k4, by omega, by omega, by go_num, FU, S5.out⟩
          case measure => simp [intOf]; omega
        · have hltI2 : ¬ (i2 : Int) < (sd.length : Int) := by omega
          have KF := F.kp
          clear F
          go_wp2_with fail
          go_ret
          exact ⟨rfl, KF.below (Nat.le_refl _) (fun _ _ e => e)⟩
end Go.Proofs.Ytdldhblhbbgloaa
