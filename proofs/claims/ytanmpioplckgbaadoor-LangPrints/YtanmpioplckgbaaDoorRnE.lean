import Derived.Test.YtanmpioplckgbaaDoorRnD
namespace Go.Proofs.YtanmpioplckgbaaDoor
open Go.RowKit Go.Deep Go.ChangeShapes Go.WideShapes Go.ChangeAt
attribute [local go_sem] Oper.semAt_some run_store_nf run_store_f
def i77 : Ins := { ins0 with code := 77 }
def i78 : Ins := { ins0 with code := 78 }
def iDone : Ins := { ins0 with code := 10, xN := -4 }
/-- Two instructions behind a list of the call's own. -/
theorem append_two {W : World} {base k : Nat} {v : Value} {qs : List Ins} (hown : W.ownsRow base 31 11 v k (icl qs)) (hb : base ≤ W.heap.size) (hk : (k + 2) * 88 ≤ 140737488355328) (q r : Ins) :
    ∃ v' w', (Builtin.append_ #[23, 23] 23 #[v, .slice (some ⟨W.heap.size, 0, none⟩) 2 2]).run Tryd.prog (W.alloc (.cells (q.cells ++ r.cells).toArray 31)) = .ok v' w' ∧ w'.ownsRow base 31 11 v' (k + 2) (icl (qs ++ [q, r])) ∧ Keeps (fun i => v.ownBlock = some i) W w' := by
  obtain ⟨i0, hi0, hz0, hz1, hz2⟩ := oIi
  obtain ⟨v', w', hr, ho, hg, _, hbl⟩ := run_append_own_at (P := Tryd.prog) (w := W.alloc (.cells (q.cells ++ r.cells).toArray 31)) base 23 23 31 i0 _ 11 88 oI hi0 hz0 hz1 hz2 rfl (by decide) v k (icl qs) (((Keeps.refl (fun _ => False) W).alloc _).owns hown (fun _ _ e => e)) ⟨W.heap.size, 0, none⟩ 2 2 (q.cells ++ r.cells) rfl (fun j u hu => by
      rw [add_at]
      have := (CL.made W (q.cells ++ r.cells) 31).c j u hu
      simpa using this) (fun u hu => by
      have h1 := all_oneCell_ins q
      have h2 := all_oneCell_ins r
      rw [Array.all_eq_true'] at h1 h2
      rcases List.mem_append.1 hu with hu | hu
      · exact h1 u (by simpa using hu)
      · exact h2 u (by simpa using hu)) (by unfold maxLen; omega) (by omega) (Nat.le_trans hb (by simp))
  refine ⟨v', w', hr, ?_, ((Keeps.refl _ W).alloc _).grown hg (fun i _ e => e)⟩
  have : icl (qs ++ [q, r]) = icl qs ++ (q.cells ++ r.cells) := by unfold icl; rw [List.flatMap_append]; simp
  rw [this]
  exact ho
theorem done_text : prR [iDone] = [100, 111, 110, 101, 32, 45, 52, 10] ∧ (chk [iDone]).1 = 0 := by
  decide +kernel
theorem isl_app {W : World} {a : Option Addr} {l m : List Ins} (h : ISL W a (l ++ m)) : ISL W a l := fun i hi => by
  obtain ⟨b, off, e, hc⟩ := h i (by rw [List.length_append]; omega)
  refine ⟨b, off, e, fun j v hv => hc j v ?_⟩
  rw [List.getD_eq_getElem?_getD, List.getElem?_append_left hi, ← List.getD_eq_getElem?_getD]
  exact hv
set_option maxHeartbeats 2000000 in
set_option maxRecDepth 1000000 in
theorem prints_any {w : World} (hE : PT w ∧ NT w ∧ PW w) {a : Option Addr} {cap : Nat} {l : List Ins} (hl : ISL w a l) (hn : ∀ q ∈ l, n64 q) (hb : l.length * 88 ≤ 140737488351232) :
    Calls Tryd.prog 3 #[.slice a l.length cap] w fun e w' => e = .returned (.bool true) ∧ Below w.heap.size w w' := by
  obtain ⟨hT, hNT, hP⟩ := hE
  have hPg := prog_any (cap := cap) hl (by omega)
  have HAp : Hid (∀ (W : World) (v : Value), W.ownsRow w.heap.size 31 11 v l.length (icl l) → Keeps (fun _ => False) w W → ∃ g c W', (Builtin.append_ #[23, 23] 23 #[v, .slice (some ⟨W.heap.size, 0, none⟩) 2 2]).run Tryd.prog (W.alloc (.cells #[.int .i64 77, .int .i64 0, .bool false, .int .i64 0, .bool false, .int .i64 0, .bool false, .int .i64 0, .int .i64 0, .int .i64 0, .int .i64 0, .int .i64 78, .int .i64 0, .bool false, .int .i64 0, .bool false, .int .i64 0, .bool false, .int .i64 0, .int .i64 0, .int .i64 0, .int .i64 0] 31)) = .ok (.slice (some ⟨g, 0, none⟩) (l.length + 2) c) W' ∧ l.length + 2 ≤ c ∧ ISL W' (some ⟨g, 0, none⟩) l ∧ W'.cell? ⟨g, l.length * 11, none⟩ = some (.int .i64 77) ∧ W'.cell? ⟨g, (l.length + 1) * 11, none⟩ = some (.int .i64 78) ∧ Keeps (fun _ => False) w W') := fun W v ho k => by
    obtain ⟨v', w', hr, ho', kk⟩ := append_two ho k.size (by omega) i77 i78
    have hll : (l ++ [i77, i78]).length = l.length + 2 := by simp
    obtain ⟨a', cap', e', hI⟩ := isl_of_owns ho' hll
    subst e'
    obtain ⟨g, off, rfl, hc⟩ := hI (l.length) (by omega)
    rcases ho'.2 with ⟨h0, _⟩ | ⟨g', c', cur, hv, hb', hgg, hle, _⟩
    · cases h0
    injection hv with hv1 _ hv3
    injection hv1 with hv1
    injection hv1 with e1 e2 _
    subst e1 e2 hv3
    have h77 := hc 0 (.int .i64 77) (by rw [List.getD_eq_getElem?_getD, List.getElem?_append_right (Nat.le_refl _), Nat.sub_self]; rfl)
    obtain ⟨g2, off2, ea, hc2⟩ := hI (l.length + 1) (by omega)
    injection ea with ea
    injection ea with ea1 ea2 _
    subst ea1 ea2
    have h78 := hc2 0 (.int .i64 78) (by rw [List.getD_eq_getElem?_getD, List.getElem?_append_right (by omega), show l.length + 1 - l.length = 1 by omega]; rfl)
    rw [Nat.zero_add, Nat.add_zero] at h77 h78
    exact ⟨_, _, w', hr, hle, isl_app hI, h77, h78, k.trans' kk (fun _ _ e => e) (fun i hi e => by have := owns_base ho i e; omega)⟩
  have HPr : Hid (∀ (W : World) (g c : Nat), Keeps (fun _ => False) w W → ISL W (some ⟨g, 0, none⟩) l → Calls Tryd.prog 5 #[.slice (some ⟨g, 0, none⟩) l.length c] W fun e w' => e = .returned (.tuple #[.string ⟨(prR l).toArray⟩, .int .i64 (chk l).1]) ∧ Keeps (fun _ => False) W w') := fun W g c k h => print_T (hT.keep k) (hNT.keep k) (hP.keep k) h hn (by omega)
  have HRp : Hid (∀ W, Keeps (fun _ => False) w W → Calls Tryd.prog 6 #[.slice a l.length cap] W fun e w' => e = .returned (.tuple #[.string ⟨(prR l).toArray⟩, .int .i64 (chk l).1]) ∧ Keeps (fun _ => False) W w') := fun W k => rprint_T (hl.keep k) hn (by omega)
  have HBk : Hid (∀ (W : World) (g c : Nat), ISL W (some ⟨g, 0, none⟩) l → Calls Tryd.prog 8 #[.slice (some ⟨g, 0, none⟩) l.length c] W fun e w' => ∃ a cap, e = .returned (.slice a l.length cap) ∧ ISL w' a l ∧ Keeps (fun _ => False) W w') := fun W g c h => (backs_any h (by omega)).mono (fun e w' ⟨v, e1, ho, k⟩ => by
    obtain ⟨a', cap', rfl, hI'⟩ := isl_of_owns_d ho rfl
    exact ⟨a', cap', e1, hI', k⟩)
  have HSm : Hid (∀ W a1 c1, Keeps (fun _ => False) w W → ISL W a1 l → Calls Tryd.prog 7 #[.slice a1 l.length c1, .slice a l.length cap] W fun e w' => e = .returned (.bool true) ∧ Keeps (fun _ => False) W w') := fun W a1 c1 k h => same_any h (hl.keep k) (by omega)
  have HDn : Hid (∀ W, Keeps (fun _ => False) w W → Calls Tryd.prog 5 #[.slice (some ⟨W.heap.size, 0, none⟩) 1 1] (W.alloc (.cells #[.int .i64 10, .int .i64 0, .bool false, .int .i64 0, .bool false, .int .i64 (-4), .bool false, .int .i64 0, .int .i64 0, .int .i64 0, .int .i64 0] 31)) fun e w' => e = .returned (.tuple #[.string ⟨#[100, 111, 110, 101, 32, 45, 52, 10]⟩, .int .i64 0]) ∧ Keeps (fun _ => False) W w') := fun W k => by
    have k2 : Keeps (fun _ => False) W (W.alloc (.cells iDone.cells.toArray 31)) := (Keeps.refl _ W).alloc _
    have hm := CL.made W iDone.cells 31
    have hI : ISL (W.alloc (.cells iDone.cells.toArray 31)) (some ⟨W.heap.size, 0, none⟩) [iDone] := fun i hi => ⟨W.heap.size, 0, rfl, fun j v hv => by
      have hi0 : i = 0 := by simp at hi; omega
      subst hi0
      have := hm.c j v hv
      simpa using this⟩
    have := print_T (cap := 1) (hT.keep (k.trans k2)) (hNT.keep (k.trans k2)) (hP.keep (k.trans k2)) hI (fun q hq => by
      have : q = iDone := by simpa using hq
      subst this
      exact ⟨⟨by decide, by decide⟩, ⟨by decide, by decide⟩, ⟨by decide, by decide⟩⟩) (by decide)
    rw [done_text.1, done_text.2] at this
    exact this.mono (fun e w' h => ⟨h.1, k2.trans h.2⟩)
  have hN88 : l.length ≤ 1599289640354 := by omega
  clear hT hNT hP hl hn hb
  obtain ⟨s, hs⟩ : ∃ s : ByteArray, (⟨(prR l).toArray⟩ : ByteArray) = s := ⟨_, rfl⟩
  rw [hs] at HPr HRp
  clear hs
  generalize (chk l).1 = ce at *
  generalize l.length = N at *
  go_enter Tryd.func3, Tryd.ntmps3
  go_wp2_with (first | (go_at_call 4; refine hPg.mono ?_; clear hPg; rintro e w2 ⟨v2, rfl, ho2, k2⟩; obtain ⟨g, c3, w3, hr, hc3, hI3, h77, h78, k3⟩ := HAp.out w2 v2 ho2 k2; have hc3' : (N : Int) ≤ (c3 : Int) := (by omega); have hc3n : N ≤ c3 := (by omega)) | (at_builtin; refine wpList_append_run' rfl _ _ _ rfl _ _ _ w3 rfl rfl hr ?_; clear hr) | (go_at_call 5; refine (HPr.out w3 g c3 k3 hI3).mono ?_; clear HPr; rintro e w4 ⟨rfl, k4⟩) | (go_at_call 6; refine (HRp.out w4 (k3.trans k4)).mono ?_; clear HRp; rintro e w5 ⟨rfl, k5⟩; have K5 := (k3.trans k4).trans k5; have hI5 := hI3.keep (k4.trans k5)) | (go_at_call 8; refine (HBk.out w5 g c3 hI5).mono ?_; clear HBk; rintro e w6 ⟨a6, c6, rfl, hI6, k6⟩) | (go_at_call 7; refine (HSm.out w6 a6 c6 (K5.trans k6) hI6).mono ?_; clear HSm; rintro e w7 ⟨rfl, k7⟩; have K7 := (K5.trans k6).trans k7) | (go_at_call 5; refine (HDn.out w7 K7).mono ?_; clear HDn; rintro e w8 ⟨rfl, k8⟩; have z77 := ((((k4.trans k5).trans k6).trans k7).trans k8).cell h77 (fun e => e); have z78 := ((((k4.trans k5).trans k6).trans k7).trans k8).cell h78 (fun e => e)))
  go_ret
  exact ⟨rfl, (K7.trans k8).below (Nat.le_refl _) (fun _ _ e => e)⟩
end Go.Proofs.YtanmpioplckgbaaDoor
