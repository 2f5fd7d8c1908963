import Derived.Test.YtdldhblhbbgloaaLocFS
import Derived.Test.YtdldhblhbbgloaaLocMV
namespace Go.Proofs.Ytdldhblhbbgloaa
open Go.RowKit

set_option maxHeartbeats 6400000 in
set_option maxRecDepth 1000000 in
theorem oneSwapWalk {w : World} (n : Int) (_ : I64 n) {a : Option Addr} {l : List Oq} (hl : OL w a l) (_ : ∀ q ∈ l, q.ok) (hln : l.length ≤ 2199023255488) (cap : Nat) :
    Calls Try.prog 8 #[.int .i64 n, .slice a l.length cap] w fun e w' => e = .returned (.bool true) ∧ Below w.heap.size w w' := by
  have hh := head_any w
  go_enter Try.func8, Try.ntmps8
  go_wp2_with (go_at_call 9; refine hh.mono ?_; clear hh; rintro e w1 ⟨rfl, k1⟩)
  refine (fresh_any (w := w1) (ρ := fun _ => 0) (u := 1) (j := 2) (q := 7) (fun _ _ => rfl) (by decide) (by decide) (by decide) (by decide) (fun e => e.elim (fun e => by cases e) (fun e => by omega)) n).mono ?_
  rintro e w2 ⟨c, rb, wb, mb, ρ2, hc, rfl, R2, x2⟩
  have hrq := reqn rb
  have k2 : Keeps (fun _ => False) w w2 := k1.trans' x2.keeps (fun _ _ e => e) (fun i hi e => sq0 e)
  have lo2 : ∀ i, i < w.heap.size → ρ2 i = 0 := fun i hi => x2.old i (Nat.lt_of_lt_of_le hi k1.size)
  have F3 : FS w w2 ρ2 rb wb mb (nw (fv c) 0 c) (nm Mm.new c) 0 (.slice none 0 0) [] := ⟨R2, k2, lo2, World.ownsRow_nil _ _ _ _, fun g e => by cases e⟩
  clear lo2 k2 x2 R2 k1
  go_wp2_with fail
  go_loopw [6] (fun iv W => ∃ (i : Nat) (ρ : Nat → Nat) (s : Ws) (m : Mm) (k : Nat), i ≤ l.length ∧ k ≤ i ∧ iv = .int .i64 (i : Int) ∧ FS w W ρ rb wb mb s m k (.slice none 0 0) []) (fun iv _ => l.length - (intOf iv).toNat)
  case atStart => exact ⟨0, ρ2, _, _, 0, Nat.zero_le _, Nat.le_refl _, rfl, F3⟩
  case round =>
    clear F3
    obtain ⟨i, ρ, s, m, k, hi, hki, rfl, F⟩ := hrel
    by_cases hlt : i < l.length
    · have hltI : (i : Int) < (l.length : Int) := by omega
      obtain ⟨b, off, rfl, hb, hcs⟩ := hl.some (by omega)
      have OA := hcs i hlt
      obtain ⟨qo, hqo⟩ : ∃ qo, Hid (oa l i = qo) := ⟨_, rfl⟩
      rw [show oa l i = qo from hqo] at OA
      have c1 := F.rs.c1
      have hcm := com_any F.rs.st F.rs.iv.wf
      have HF : Hid (FS w wr ρ rb wb mb s m k (.slice none 0 0) []) := F
      have rB : ρ wr.heap.size = 0 := F.rs.st.bnd _ (Nat.le_refl _)
      clear F hcs
      go_wp2_with fail
      refine hcm.mono ?_
      clear hcm
      rintro e w1 ⟨rfl, ow1, k1⟩
      obtain ⟨an, cn, e1, va1, _⟩ := va_own ow1 com_len
      injection e1 with e11 e12 e13
      subst e11 e13
      have V1 : Hid (VL w1 ρ (some ⟨wr.heap.size, 0, none⟩) (s.com m)) := va_vl va1 (fun g o e => by cases e; exact rB)
      have F1 := HF.out.new k1
      have hdo := does_any F1.rs (by omega) qo
      have HF1 : Hid (FS w w1 ρ rb wb mb s m k (.slice none 0 0) []) := F1
      obtain ⟨c0, c1', c2, c3, c4, c5, c6, c7⟩ := OA.keep F1.kp (fun e => e)
      simp only [opv] at hdo
      clear F1 ow1 va1 e12 k1
      go_wp2_with fail
      refine hdo.mono ?_
      clear hdo c0 c1' c2 c3 c4 c5 c6 c7
      rintro e W4 ⟨er, d, nn, rfl, ρ4, s4, m1, m4, k4, hop, hdo, R4, x4⟩
      have I1 : Inv s m1 := hop.inv HF1.out.rs.iv
      have hk4 : k4 ≤ i + 1 := by have := hop.le; omega
      have hval : ∀ x, s.value m1 x = s.value m x := fun x => by rcases hop with ⟨_, e, _⟩ | ⟨_, e, _⟩ <;> rw [e] <;> rfl
      have hobj := objs_do hdo
      obtain ⟨wC, hwC⟩ : ∃ wC, wC = W4.alloc (.cells #[.int .i64 er, .bool d, .int .i64 nn] 32) := ⟨_, rfl⟩
      have KC : Keeps (fun _ => False) W4 wC := by rw [hwC]; exact (Keeps.refl _ W4).alloc _
      have t0 : wC.cell? ⟨W4.heap.size, 0, none⟩ = some (.int .i64 er) := by rw [hwC]; simp
      have t1 : wC.cell? ⟨W4.heap.size, 1, none⟩ = some (.bool d) := by rw [hwC]; simp
      have t2 : wC.cell? ⟨W4.heap.size, 2, none⟩ = some (.int .i64 nn) := by rw [hwC]; simp
      have F4 : FS w wC ρ4 rb wb mb s4 m4 k4 (.slice none 0 0) [] := (HF1.out.step R4 x4).new KC
      have VC : VA wC (some ⟨wr.heap.size, 0, none⟩) (s.com m) := (vl_va (V1.out.ext x4 sq0)).new KC
      have hlen : (s.com m).length = s4.objs.length := by rw [com_len, hobj]
      have hmv : ∀ U : KS wC, Calls Try.prog 36 #[.pointer (some ⟨rb, 0, none⟩), .agg #[.int .i64 qo.kind, .int .i64 qo.a, .int .i64 qo.b, .int .i64 qo.c, .int .i64 qo.v.num, .int .i64 qo.v.next, .bool qo.v.dead, .bool qo.shut], .agg #[.int .i64 er, .bool d, .int .i64 nn], .slice (some ⟨wr.heap.size, 0, none⟩) (s.com m).length s.objs.length] U.val fun e w' => e = .returned (.bool true) ∧ Keeps (fun _ => False) U.val w' := fun U => by
        have RU := (F4.new U.property).rs
        have VU := VC.new U.property
        obtain ⟨kd, oa_, ob_, oc_, ov_, sh_⟩ := qo
        have hno : ¬ (kd = 12 ∧ d = true) → ¬ (kd = 9 ∧ d = true) → ∀ i, i < s4.objs.length → s4.value m4 i = (s.com m).getD i vl0 := fun n1 n2 i hi => by
          rw [hobj] at hi
          rw [com_get hi, moves_none I1 hdo n1 n2 hi, hval]
        by_cases h12 : kd = 12
        · subst h12
          cases d with
          | false => exact moved_c0 RU VU hlen _ oa_ ob_ oc_ ov_ sh_ er nn (hno (fun q => by cases q.2) (fun q => by cases q.2))
          | true =>
            obtain ⟨x, ex, hx⟩ := moves_commit I1 hdo rfl
            simp only [] at ex
            subst ex
            exact moved_c1 RU VU hlen _ x ob_ oc_ ov_ sh_ er nn (fun i hi => by
              rw [hobj] at hi
              exact ⟨(hx i hi).1, fun ne => by rw [com_get hi, (hx i hi).2 ne, hval]⟩)
        · by_cases h9 : kd = 9
          · subst h9
            cases d with
            | false => exact moved_a0 RU VU hlen _ oa_ ob_ oc_ ov_ sh_ er nn (hno (fun q => by cases q.2) (fun q => by cases q.2))
            | true =>
              obtain ⟨x, z, ex, ez, hx⟩ := moves_acquire I1 hdo rfl
              simp only [] at ex ez
              subst ex ez
              exact moved_a1 RU VU hlen _ x ob_ z ov_ sh_ er nn (fun i hi => by
                rw [hobj] at hi
                exact ⟨(hx i hi).1, fun ne => by rw [com_get hi, (hx i hi).2 ne, hval]⟩)
          · exact moved_none RU VU hlen _ kd h12 h9 oa_ ob_ oc_ ov_ sh_ er nn d (hno (fun q => h12 q.1) (fun q => h9 q.1))
      rw [com_len] at hmv
      obtain ⟨c0, c1', c2, c3, c4, c5, c6, c7⟩ := OA.keep F4.kp (fun e => e)
      have c0' := ks_cell c0
      have c1'' := ks_cell c1'
      have c2' := ks_cell c2
      have c3' := ks_cell c3
      have c4' := ks_cell c4
      have c5' := ks_cell c5
      have c6' := ks_cell c6
      have c7' := ks_cell c7
      have t0' := ks_cell t0
      have t1' := ks_cell t1
      have t2' := ks_cell t2
      have hNE : Nonempty (KS wC) := ⟨⟨wC, Keeps.refl _ wC⟩⟩
      have H4 : Hid (FS w wC ρ4 rb wb mb s4 m4 k4 (.slice none 0 0) []) := F4
      clear VC F4 hdo x4 R4 hop I1 hval hobj c0 c1' c2 c3 c4 c5 c6 c7 t0 t1 t2 hlen c1
      go_wp2_with fail
      rw [← hwC]
      clear hwC
      refine wp_region_ks (by kernel_rfl) (by kernel_rfl) ?_
      repeat (go_big_quiet_step ((go_at_call 36; refine (hmv _).mono ?_; rintro e w2 ⟨rfl, k2⟩; exact ⟨rfl, ⟨_, Keeps.trans (KS.property _) k2⟩, rfl⟩)))
      refine wpQuiet_nil ?_
      rintro _ ⟨U, rfl⟩
      have FU := H4.out.new U.property
      clear c0' c1'' c2' c3' c4' c5' c6' c7' t0' t1' t2' hNE hmv H4
      generalize U.val = wu at *
      go_wp2_with fail
      go_roundw
      case rel => exact ⟨i + 1, ρ4, s4, m4, k4, by omega, by omega, by go_num, FU⟩
      case measure => simp [intOf]; omega
    · have hltI : ¬ (i : Int) < (l.length : Int) := by omega
      have KF := F.kp
      clear F
      go_wp2_with fail
      go_ret
      exact ⟨rfl, KF.below (Nat.le_refl _) (fun _ _ e => e)⟩
end Go.Proofs.Ytdldhblhbbgloaa
