import Derived.Test.YtgcfckbmmdajhaaLiS
namespace Go.Proofs.Ytgcfckbmmdajhaa
open Go.RowKit
attribute [local go_sem] Oper.semAt_some run_store_nf run_store_f
theorem fl_all {l : List Cl} {a : Option Addr} {cap bc : Nat} (hc64 : ∀ c ∈ l, C64 c) (hn : l.length ≤ 8) : ∀ d, FLd l a cap bc d
  | 0 => fl_any hc64 hn (fun d' e => by omega)
  | d + 1 => fl_any hc64 hn (fun d' e => by
    obtain rfl : d' = d := by omega
    exact fl_all hc64 hn d')
/-- The first line. -/
def fstL (l : List Cl) : Option (List Nat) := srch l l.length [] []
/-- What firstLine answers. -/
def FiA (l : List Cl) (w w' : World) (v : Value) (fb : Bool) : Prop := (∃ r, fstL l = some r ∧ fb = true ∧ w'.ownsRow w.heap.size 3 1 v r.length (pvs r)) ∨ (fstL l = none ∧ fb = false ∧ v = .slice none 0 0)
set_option maxHeartbeats 600000 in
set_option maxRecDepth 100000 in
theorem firstLine_any {w : World} {a : Option Addr} {cap : Nat} {l : List Cl} (hl : CSL w a l) (hc64 : ∀ c ∈ l, C64 c) (hn : l.length ≤ 8) : Calls Try.prog 18 #[.slice a l.length cap] w fun e w' => ∃ v fb, e = .returned (.tuple #[v, .bool fb]) ∧ FiA l w w' v fb ∧ Keeps (fun _ => False) w w' := by
  have HFD := fl_all (a := a) (cap := cap) (bc := w.heap.size) hc64 hn l.length
  obtain ⟨W1, hW1⟩ : ∃ W1, W1 = ((w.alloc (.cells #[.slice a l.length cap] 28)).alloc (.cells #[.slice none 0 0] 29)).alloc (.cells #[.nilFunc] 68) := ⟨_, rfl⟩
  have k1 : Keeps (fun _ => False) w W1 := by rw [hW1]; exact (((Keeps.refl _ w).alloc _).alloc _).alloc _
  have hb0 : W1.cell? ⟨w.heap.size, 0, none⟩ = some (.slice a l.length cap) := by
    rw [hW1]
    exact (((CL.made w [.slice a l.length cap] 28).alloc (by show 0 < 1; decide) (.cells #[.slice none 0 0] 29)).alloc (by show 0 < 1; decide) (.cells #[.nilFunc] 68)).c 0 _ rfl
  have hb1 : CL W1 (w.heap.size + 1) [.slice none 0 0] := by
    rw [hW1]
    have h := (CL.made (w.alloc (.cells #[.slice a l.length cap] 28)) [.slice none 0 0] 29).alloc (by show 0 < 1; decide) (.cells #[.nilFunc] 68)
    simpa using h
  have hb2 : CL W1 (w.heap.size + 2) [.nilFunc] := by
    rw [hW1]
    have h := CL.made ((w.alloc (.cells #[.slice a l.length cap] 28)).alloc (.cells #[.slice none 0 0] 29)) [.nilFunc] 68
    simpa using h
  have z1 : W1.heap.size = w.heap.size + 3 := by rw [hW1]; simp
  have HW1 : Hid (W1 = ((w.alloc (.cells #[.slice a l.length cap] 28)).alloc (.cells #[.slice none 0 0] 29)).alloc (.cells #[.nilFunc] 68)) := hW1
  clear hW1
  have n2 := hb2.c 0 _ rfl
  have n2z := hb2.z 0 (by show 0 < 1; decide)
  obtain ⟨W2, hW2⟩ : ∃ W2, W2 = W1.setCell ⟨w.heap.size + 2, 0, none⟩ (.func (.func 27) #[] #[.pointer (some ⟨w.heap.size, 0, none⟩), .pointer (some ⟨w.heap.size + 1, 0, none⟩), .pointer (some ⟨w.heap.size + 2, 0, none⟩)]) := ⟨_, rfl⟩
  have k2 : Keeps (fun i => i = w.heap.size + 2) W1 W2 := by rw [hW2]; exact (Keeps.refl (fun i => i = w.heap.size + 2) W1).setCell (p := ⟨w.heap.size + 2, 0, none⟩) (fun _ => rfl) _
  have hc2 : CL W2 (w.heap.size + 2) [.func (.func 27) #[] #[.pointer (some ⟨w.heap.size, 0, none⟩), .pointer (some ⟨w.heap.size + 1, 0, none⟩), .pointer (some ⟨w.heap.size + 2, 0, none⟩)]] := by rw [hW2]; exact hb2.set (o := 0) (by show 0 < 1; decide) _
  have z2 := k2.size
  obtain ⟨W3, hW3⟩ : ∃ W3, W3 = W2.alloc (.map #[] 0) := ⟨_, rfl⟩
  have k3 : Keeps (fun _ => False) W2 W3 := by rw [hW3]; exact (Keeps.refl _ W2).alloc _
  have hS3 : SV W3 W2.heap.size 0 (fun _ => false) := by rw [hW3]; exact SV.made W2
  have hmm : (Instr.makeMap 53 none).run Try.prog W2 = .ok (.map (some W2.heap.size)) W3 := by rw [hW3]; exact run_makeMap _ _
  clear hW3
  have e2 := hc2.c 0 _ rfl
  have hE3 : FE l a cap w.heap.size W3 := by
    refine ⟨k3.cell (k2.cell hb0 (fun e => by have e : w.heap.size = w.heap.size + 2 := e; omega)) (fun e => e), k3.cell e2 (fun e => e), ((hl.keep k1).keepS k2 (fun hp b off e hb e' => ?_)).keep k3, fun hp b off e => ?_⟩
    · have e' : b = w.heap.size + 2 := e'
      obtain ⟨b', off', q1, q2⟩ := hl.lt hp
      rw [q1] at e
      injection e with e
      injection e with e _ _
      omega
    · obtain ⟨b', off', q1, q2⟩ := hl.lt hp
      rw [q1] at e
      injection e with e
      injection e with e _ _
      omega
  have hL3 : LS w.heap.size W3 (.slice none 0 0) [] := ⟨(hb1.keep (by show 0 < 1; decide) k2 (fun e => by have e : w.heap.size + 1 = w.heap.size + 2 := e; omega)).keep (by show 0 < 1; decide) k3 (fun e => e), World.ownsRow_nil _ _ _ _⟩
  have hrc := HFD W3 [] [] (.slice none 0 0) W2.heap.size 0 (fun _ => false) hE3 hL3 List.nodup_nil (fun x hx => by cases hx) (by simp) hS3 fs_nil (Nat.le_refl _) (by omega) (fun e => by cases e)
  have K3 : Keeps (fun _ => False) w W3 := (k1.trans' k2 (fun _ _ e => e) (fun i hi e => by have e : i = w.heap.size + 2 := e; omega)).trans k3
  have HK3 : Hid (∀ w', Keeps (LT w.heap.size (.slice none 0 0)) W3 w' → Keeps (fun _ => False) w w') := fun w' k => K3.trans' k (fun _ _ e => e) (fun i hi e => by
    rcases e with e | e
    · have e : i = w.heap.size + 1 := e
      omega
    · cases e)
  clear hE3 hL3 hS3 hl k1 hb0 hb1 hb2 k2 hc2 k3 K3 z1 z2
  have hfs : srch l l.length [] [] = fstL l := rfl
  rw [hfs] at hrc
  clear hfs HFD
  obtain ⟨R, hR⟩ : ∃ R, R = fstL l := ⟨_, rfl⟩
  rw [← hR] at hrc
  have HR : Hid (R = fstL l) := hR
  clear hR
  generalize l.length = N at *
  go_enter Try.func18, Try.ntmps18
  refine wp_seq_k (fun KK hKK => ?_)
  have hKH : Hid _ := hKK
  clear hKK
  go_wp2_with fail
  refine hKH.out _ _ ?_
  clear hKH KK
  refine wp_seq_k (fun KK hKK => ?_)
  have hKH : Hid _ := hKK
  clear hKK
  go_wp2_with fail
  refine hKH.out _ _ ?_
  clear hKH KK
  refine wp_seq_k (fun KK hKK => ?_)
  have hKH : Hid _ := hKK
  clear hKK
  go_wp2_with fail
  refine hKH.out _ _ ?_
  clear hKH KK
  have e9 := HW1.out
  rw [← HW1.out]
  clear HW1 e9
  refine wp_seq_k (fun KK hKK => ?_)
  have hKH : Hid _ := hKK
  clear hKK
  go_wp2_with fail
  refine hKH.out _ _ ?_
  clear hKH KK
  rw [← hW2]
  clear hW2 n2 n2z
  cases R with
  | some r =>
    go_wp2_with (go_at_call 27; refine hrc.mono ?_; clear hrc; rintro e w4 ⟨lv', rfl, hL4, k4, ho4⟩; have e4 := hL4.c.c 0 _ rfl)
    go_ret2
    exact ⟨lv', true, rfl, .inl ⟨r, HR.out.symm, rfl, owns_low hL4.o (by omega)⟩, HK3.out _ k4⟩
  | none =>
    go_wp2_with (go_at_call 27; refine hrc.mono ?_; clear hrc; rintro e w4 ⟨lv', rfl, hL4, k4, ho4⟩)
    go_ret2
    exact ⟨_, false, rfl, .inr ⟨HR.out.symm, rfl, rfl⟩, HK3.out _ k4⟩
/-- What Search answers. -/
def SeA (l : List Cl) (w w' : World) (v : Value) (fb : Bool) (ec : Int) : Prop := (8 < l.length ∧ v = .slice none 0 0 ∧ fb = false ∧ ec = 170) ∨ (l.length ≤ 8 ∧ ¬ MayL l ∧ v = .slice none 0 0 ∧ fb = false ∧ ec = 171) ∨ (l.length ≤ 8 ∧ MayL l ∧ ec = 0 ∧ FiA l w w' v fb)
theorem FiA.keep {l : List Cl} {w w1 w' : World} {v : Value} {fb : Bool} (h : FiA l w1 w' v fb) (hs : w.heap.size ≤ w1.heap.size) : FiA l w w' v fb := by
  rcases h with ⟨r, h1, h2, h3⟩ | h
  · exact .inl ⟨r, h1, h2, owns_low h3 hs⟩
  · exact .inr h
set_option maxHeartbeats 600000 in
set_option maxRecDepth 100000 in
theorem search_any {w : World} {a : Option Addr} {cap : Nat} {l : List Cl} (hl : CSL w a l) (hc64 : ∀ c ∈ l, C64 c) (hn : l.length ≤ 2199023255552) : Calls Try.prog 8 #[.slice a l.length cap] w fun e w' => ∃ v fb ec, e = .returned (.tuple #[v, .bool fb, .int .i64 ec]) ∧ SeA l w w' v fb ec ∧ Keeps (fun _ => False) w w' := by
  by_cases h8 : 8 < l.length
  · have H8 : Hid (8 < l.length) := h8
    have s1 : decide ((l.length : Int) > 8) = true := decide_eq_true (by omega)
    have s2 : decide ((8 : Int) < (l.length : Int)) = true := decide_eq_true (by omega)
    have s3 : decide (8 < l.length) = true := decide_eq_true (by omega)
    clear h8 hl
    obtain ⟨N, hN⟩ : ∃ N, N = l.length := ⟨_, rfl⟩
    rw [← hN] at s1 s2 s3
    rw [← hN]
    clear hN
    go_enter Try.func8, Try.ntmps8
    go_wp2_with fail
    go_ret3
    exact ⟨_, _, _, rfl, .inl ⟨H8.out, rfl, rfl, rfl⟩, Keeps.refl _ _⟩
  · have H8 : Hid (l.length ≤ 8) := (by omega : l.length ≤ 8)
    have s1 : decide ((l.length : Int) > 8) = false := decide_eq_false (by omega)
    have s2 : decide ((8 : Int) < (l.length : Int)) = false := decide_eq_false (by omega)
    have s3 : decide (8 < l.length) = false := decide_eq_false (by omega)
    have hor := ordered_any (cap := cap) soP hl hn
    have HFI : Hid (∀ W, Keeps (fun _ => False) w W → Calls Try.prog 18 #[.slice a l.length cap] W fun e w' => ∃ v fb, e = .returned (.tuple #[v, .bool fb]) ∧ FiA l W w' v fb ∧ Keeps (fun _ => False) W w') := fun W k => firstLine_any (hl.keep k) hc64 H8.out
    clear h8 hl hn
    obtain ⟨N, hN⟩ : ∃ N, N = l.length := ⟨_, rfl⟩
    rw [← hN] at s1 s2 s3 HFI hor
    rw [← hN]
    clear hN
    go_enter Try.func8, Try.ntmps8
    refine wp_seq_k (fun KK hKK => ?_)
    have hKH : Hid _ := hKK
    clear hKK
    go_wp2_with fail
    refine hKH.out _ _ ?_
    clear hKH KK
    refine wp_seq_k (fun KK hKK => ?_)
    have hKH : Hid _ := hKK
    clear hKK
    go_wp2_with fail
    refine hKH.out _ _ ?_
    clear hKH KK
    refine wp_seq_k (fun KK hKK => ?_)
    have hKH : Hid _ := hKK
    clear hKK
    refine wp_seq_k (fun KK2 hKK2 => ?_)
    have hKH2 : Hid _ := hKK2
    clear hKK2
    go_wp2_with (go_at_call 15; refine hor.mono ?_; clear hor; rintro e w1 ⟨v, ec, rfl, hP, k1⟩; have HP : Hid (OrdP l w w1 v ec) := hP; clear hP)
    refine hKH2.out _ _ ?_
    clear hKH2 KK2
    rcases HP.out with ⟨he, hM, -⟩ | ⟨he, hM, -⟩
    · have q1 : (ec != 0) = false := by simp [he]
      have HE : Hid (ec = 0) := he
      have HM : Hid (MayL l) := hM
      have hfi := HFI.out w1 k1
      clear he hM HP
      go_wp2_with fail
      refine hKH.out _ _ ?_
      clear hKH KK
      go_wp2_with (go_at_call 18; refine hfi.mono ?_; clear hfi; rintro e w2 ⟨v2, fb, rfl, hF, k2⟩; have HF : Hid (FiA l w1 w2 v2 fb) := hF; clear hF)
      go_ret3
      exact ⟨_, _, _, rfl, .inr (.inr ⟨H8.out, HM.out, rfl, HF.out.keep k1.size⟩), k1.trans k2⟩
    · have q1 : (ec != 0) = true := by simp [he]
      have HE : Hid (ec = 171) := he
      have HM : Hid (¬ MayL l) := hM
      clear he hM HP
      go_wp2_with fail
      go_ret3
      exact ⟨_, _, _, rfl, .inr (.inl ⟨H8.out, HM.out, rfl, rfl, HE.out⟩), k1⟩
end Go.Proofs.Ytgcfckbmmdajhaa
