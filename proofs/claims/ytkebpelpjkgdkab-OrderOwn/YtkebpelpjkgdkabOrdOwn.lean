import Derived.Test.YtkebpelpjkgdkabOwn
import Derived.Test.YtkebpelpjkgdkabLits
import Derived.Test.YtkebpelpjkgdkabLoad
import Derived.Test.YtkebpelpjkgdkabQueF
namespace Go.Proofs.Ytkebpelpjkgdkab
open Go.RowKit Go.Maps

section
variable {w0 w : World} {q : Nat} {xs : List It} {ls : List (Value × List It)} {a b c d : Value × List It}
theorem LS.turn (h : LS w0 w q xs (a :: b :: c :: d :: ls)) : LS w0 w q xs (b :: c :: d :: a :: ls) :=
  h.perm (((List.Perm.swap b a (c :: d :: ls))).trans ((((List.Perm.swap c a (d :: ls))).trans ((List.Perm.swap d a ls).cons c)).cons b))
theorem LS.flip (h : LS w0 w q xs (d :: c :: b :: a :: ls)) : LS w0 w q xs (a :: b :: c :: d :: ls) :=
  h.perm (List.Perm.append_right ls (List.reverse_perm [a, b, c, d]))
theorem LS.tail {p : Value × List It} (h : LS w0 w q xs (p :: ls)) : LS w0 w q xs ls := by
  obtain ⟨F, hq, hF, hd⟩ := h.queue
  exact ⟨⟨F, hq, hF, fun r hr => hd r (by simp [hr])⟩, fun r hr => h.own r (by simp [hr]), (List.pairwise_cons.1 h.apart).2, h.keeps⟩
theorem LS.ilm {v : Value} {n : Nat} {m : Int} (h : LS w0 w q xs ((v, mks n m) :: ls)) : ∃ a cap, v = .slice a n cap ∧ IL w a (mks n m) := by
  obtain ⟨a, cap, e, hi⟩ := h.il
  exact ⟨a, cap, by rw [e]; simp [mks], hi⟩
theorem LS.items (h : LS w0 w q xs ls) {SL : List It} (hs : srt xs = SL) :
    Calls Try.prog 17 #[.pointer (some ⟨q, 0, none⟩)] w fun e w' => ∃ a cap, e = .returned (.slice a SL.length cap) ∧ LS w0 w' q xs ((.slice a SL.length cap, SL) :: ls) := by
  obtain ⟨F, hq, hF, hd⟩ := h.queue
  refine (items_any hq).mono ?_
  rintro e w' ⟨v, rfl, ho, k⟩
  rw [hs] at ho
  have h' := h.add ho k
  obtain ⟨a, cap, rfl, _⟩ := h'.il
  exact ⟨a, cap, rfl, h'⟩
end

theorem srt_mem {xs : List It} {x : It} (h : x ∈ srt xs) : x ∈ xs := (srt_perm xs).mem_iff.1 h

set_option maxHeartbeats 6400000 in
set_option maxRecDepth 1000000 in
theorem ordOwn_walk {w : World} {a : Option Addr} {items : List It} (hi : IL w a items) (hl : items.length * 16 ≤ 140737488351232) (hnum : ∀ x ∈ items, I64 x.1 ∧ I64 x.2) (cap : Nat) (n : Int) (_ : I64 n) :
    Calls Try.prog 5 #[.slice a items.length cap, .int .i64 n] w fun e w' => e = .returned (.bool true) ∧ Below w.heap.size w w' := by
  go_enter Try.func5, Try.ntmps5
  go_wp2_with fail
  refine (head_any w).mono ?_
  rintro e w1 ⟨rfl, k1⟩
  go_wp2_with fail
  refine (new_any w1).mono ?_
  rintro e w2 ⟨rfl, q2, k2⟩
  have kk := k1.trans k2
  have hnF : items.length = 0 ∨ ∀ b off, a = some ⟨b, off, none⟩ → b ∉ [w1.heap.size] := by
    rcases hi with h | ⟨b', off', rfl, hb, _⟩
    · exact .inl h
    · exact .inr (fun b off e => by cases e; simp; have := k1.size; omega)
  have hsz1 : w.heap.size ≤ w1.heap.size := k1.size
  obtain ⟨p, hp⟩ : ∃ p, w1.heap.size = p := ⟨_, rfl⟩
  rw [hp] at q2 hnF hsz1
  rw [hp]
  clear hp k2 k1
  go_wp2_with fail
  refine (load_any q2 (hi.new kk) hnF (by omega) hnum cap).mono ?_
  rintro e w3 ⟨v, rfl, hown, xs, F, q3, hperm, hleft, hg⟩
  have hH : (hold items).length ≤ 4096 := hold_le _
  have hLn : ∀ x ∈ hold items, I64 x.1 ∧ I64 x.2 := fun x hx => hnum x (hold_mem hx)
  obtain ⟨L, hL⟩ : ∃ L, Hid (hold items = L) := ⟨_, rfl⟩
  rw [hL.out] at hown hperm hH hLn
  have hB : ∀ k ∈ F, w.heap.size ≤ k := fun k hk => (hleft.old k hk).elim (fun e => by simp at e; omega) (fun e => by have := kk.size; omega)
  have K3 : Keeps (fun _ => False) w w3 := kk.trans' hleft.keeps (fun _ _ e => e) (fun i hi e => by simp at e; omega)
  have s3 : LS w w3 p xs [(v, L)] := ⟨⟨F, q3, hB, fun r hr i hi hm => by simp at hr; subst hr; exact hg i (by simpa using hm) hi⟩, fun r hr => by simp at hr; subst hr; exact owns_mono' hown kk.size, by simp, K3⟩
  obtain ⟨SL, hSL⟩ : ∃ SL, Hid (srt L = SL) := ⟨_, rfl⟩
  have hsx : Hid (srt xs = SL) := by
    show _ = _
    rw [← hSL.out]
    exact srt_eq (srt_sd xs) ((srt_perm xs).trans hperm)
  have HSL : Hid (SL.length = L.length) := by show _ = _; rw [← hSL.out, srt_length]
  have hSb : SL.length ≤ 4096 := by have := HSL.out; omega
  obtain ⟨ah, ch, rfl, ilh⟩ := s3.il
  clear hown q2 hnF hleft hg q3 hB K3 kk
  have hso := sort_any ilh (by omega) hLn ch
  rw [hSL.out] at hso
  go_wp2_with fail
  refine hso.mono ?_
  rintro e w4 ⟨v4, rfl, o4, k4⟩
  have s4 := s3.add o4 k4
  obtain ⟨aw, cw, rfl, _⟩ := s4.il
  clear hso s3 o4 k4 ilh
  -- kept
  have KA : Keeps (fun _ => False) w4 (w4.alloc (.cells #[] 32)) := (Keeps.refl _ w4).alloc _
  obtain ⟨gk, ck, w5, hak, ok, kk, lk⟩ := append_own (own_lit w4 #[] [] rfl (by decide)) ((hi.new s4.keeps).new KA) cap (by simp; omega) (by simp)
  have KW5 : Keeps (fun _ => False) w4 w5 := KA.trans' kk (fun _ _ e => e) (fun i hi e => by omega)
  simp only [List.nil_append] at hak ok
  have HAK : Hid ((Builtin.append_ #[22, 22] 22 #[.slice (some ⟨w4.heap.size, 0, none⟩) 0 0, .slice a items.length cap]).run Try.prog (w4.alloc (.cells #[] 32)) = .ok (.slice (some ⟨gk, 0, none⟩) items.length ck) w5) := hak
  have s5 := s4.add ok KW5
  clear hak ok kk KA s4 KW5 lk
  go_wp2_with ((at_builtin; refine wpList_append_run rfl _ _ _ rfl _ _ _ _ rfl rfl HAK.out ?_; clear HAK))
  refine (s5.items hsx.out).mono ?_
  rintro e w6 ⟨aa, ca, rfl, s6⟩
  clear s5
  go_wp2_with fail
  refine (s6.items hsx.out).mono ?_
  rintro e w7 ⟨ab, cb, rfl, s7⟩
  clear s6
  go_wp2_with fail
  obtain ⟨C, hC⟩ : ∃ C, Hid (srt items = C) := ⟨_, rfl⟩
  have HCL : Hid (C.length = items.length) := by show _ = _; rw [← hC.out, srt_length]
  have hso := sort_any (hi.new s7.keeps) (by omega) hnum cap
  rw [hC.out] at hso
  refine hso.mono ?_
  rintro e w8 ⟨v8, rfl, o8, k8⟩
  have s8 := s7.add o8 k8
  obtain ⟨ac, cc, rfl, _⟩ := s8.il
  clear hso s7 o8 k8
  go_wp2_with fail
  obtain ⟨T, hT⟩ : ∃ T, Hid ((srt items).take n.toNat = T) := ⟨_, rfl⟩
  have HTL : Hid (T.length ≤ items.length) := by show _ ≤ _; rw [← hT.out, List.length_take, srt_length]; omega
  have hfi := firsts_any (hi.new s8.keeps) (by omega) hnum cap n
  rw [hT.out] at hfi
  refine hfi.mono ?_
  rintro e w9 ⟨v9, rfl, o9, k9⟩
  have s9 := (s8.add o9 k9).flip
  obtain ⟨ad, cd, rfl, _⟩ := (s8.add o9 k9).il
  clear hfi s8 o9 k9
  have hn1 : ((SL.length : Int) != (L.length : Int)) = false := by rw [HSL.out]; simp
  have hn2 : ((C.length : Int) != (items.length : Int)) = false := by rw [HCL.out]; simp
  have hn3 : ((SL.length : Int) == (L.length : Int)) = true := by rw [HSL.out]; simp
  have hn4 : ((C.length : Int) == (items.length : Int)) = true := by rw [HCL.out]; simp
  have hb1 : SL.length ≤ 9223372036854775807 := by omega
  have hb2 : C.length ≤ 9223372036854775807 := by have := HCL.out; omega
  have hb3 : T.length ≤ 9223372036854775807 := by have := HTL.out; omega
  have hr1 : (SL.length + 3) * 16 ≤ 140737488355328 := by omega
  have hr2 : (C.length + 3) * 16 ≤ 140737488355328 := by have := HCL.out; omega
  have hr3 : (T.length + 3) * 16 ≤ 140737488355328 := by have := HTL.out; omega
  have hf1 : SL.length + 3 ≤ 9223372036854775807 := by omega
  have hf2 : C.length + 3 ≤ 9223372036854775807 := by omega
  have hf3 : T.length + 3 ≤ 9223372036854775807 := by omega
  go_wp2_with fail
  refine (mark_any s9 hb1 1).mono ?_
  rintro e w10 ⟨rfl, s10'⟩
  have s10 := s10'.turn
  clear s9 s10'
  go_wp2_with fail
  refine (mark_any s10 hb1 2).mono ?_
  rintro e w11 ⟨rfl, s11'⟩
  have s11 := s11'.turn
  clear s10 s11'
  go_wp2_with fail
  refine (mark_any s11 hb2 3).mono ?_
  rintro e w12 ⟨rfl, s12'⟩
  have s12 := s12'.turn
  clear s11 s12'
  go_wp2_with fail
  refine (mark_any s12 hb3 4).mono ?_
  rintro e w13 ⟨rfl, s13'⟩
  have s13 := s13'.turn
  clear s12 s13'
  go_wp2_with fail
  refine (grown_any s13 hr1).mono ?_
  rintro e w14 ⟨gA, rfl, s14'⟩
  obtain ⟨xA, yA, rfl, _⟩ := s14'.ilm
  have s14 := s14'.turn
  clear s13 s14'
  go_wp2_with fail
  refine (grown_any s14 hr1).mono ?_
  rintro e w15 ⟨gB, rfl, s15'⟩
  obtain ⟨xB, yB, rfl, _⟩ := s15'.ilm
  have s15 := s15'.turn
  clear s14 s15'
  go_wp2_with fail
  refine (grown_any s15 hr2).mono ?_
  rintro e w16 ⟨gC, rfl, s16'⟩
  obtain ⟨xC, yC, rfl, _⟩ := s16'.ilm
  have s16 := s16'.turn
  clear s15 s16'
  go_wp2_with fail
  refine (grown_any s16 hr3).mono ?_
  rintro e w17 ⟨gD, rfl, s17'⟩
  obtain ⟨xD, yD, rfl, _⟩ := s17'.ilm
  have s17 := s17'.turn
  clear s16 s17'
  go_wp2_with fail
  obtain ⟨_, _, ev, il⟩ := s17.ilm
  cases ev
  refine (all_any il hf1 yA).mono ?_
  rintro e w18 ⟨rfl, k⟩
  have s18 := (s17.new k).turn
  clear s17 il k
  go_wp2_with fail
  obtain ⟨_, _, ev, il⟩ := s18.ilm
  cases ev
  refine (all_any il hf1 yB).mono ?_
  rintro e w19 ⟨rfl, k⟩
  have s19 := (s18.new k).turn
  clear s18 il k
  go_wp2_with fail
  obtain ⟨_, _, ev, il⟩ := s19.ilm
  cases ev
  refine (all_any il hf2 yC).mono ?_
  rintro e w20 ⟨rfl, k⟩
  have s20 := (s19.new k).turn
  clear s19 il k
  go_wp2_with fail
  obtain ⟨_, _, ev, il⟩ := s20.ilm
  cases ev
  refine (all_any il hf3 yD).mono ?_
  rintro e w21 ⟨rfl, k⟩
  have s21 := (s20.new k).turn
  clear s20 il k
  obtain ⟨_, _, ev, ilk⟩ := s21.tail.tail.tail.tail.il
  cases ev
  go_wp2_with fail
  refine (same_any (hi.new s21.keeps) ilk (by omega) cap ck).mono ?_
  rintro e w22 ⟨rfl, k⟩
  have s22 := s21.new k
  clear s21 ilk k
  go_wp2_with fail
  refine (s22.items hsx.out).mono ?_
  rintro e w23 ⟨ae, ce, rfl, s23⟩
  clear s22
  obtain ⟨_, _, ev, ile⟩ := s23.il
  cases ev
  obtain ⟨_, _, ev, ilw⟩ := s23.tail.tail.tail.tail.tail.tail.il
  cases ev
  go_wp2_with fail
  refine (same_any ile ilw hb1 ce cw).mono ?_
  rintro e w24 ⟨rfl, k⟩
  have s24 := (s23.new k).tail
  clear s23 ile ilw k
  go_wp2_with fail
  obtain ⟨_, _, ev, il⟩ := s24.ilm
  cases ev
  refine (all_any il hf1 yA).mono ?_
  rintro e w25 ⟨rfl, k⟩
  have s25 := (s24.new k).turn
  clear s24 il k
  go_wp2_with fail
  obtain ⟨_, _, ev, il⟩ := s25.ilm
  cases ev
  refine (all_any il hf1 yB).mono ?_
  rintro e w26 ⟨rfl, k⟩
  have s26 := (s25.new k).turn
  clear s25 il k
  go_wp2_with fail
  obtain ⟨_, _, ev, il⟩ := s26.ilm
  cases ev
  refine (all_any il hf2 yC).mono ?_
  rintro e w27 ⟨rfl, k⟩
  have s27 := (s26.new k).turn
  clear s26 il k
  go_wp2_with fail
  obtain ⟨_, _, ev, il⟩ := s27.ilm
  cases ev
  refine (all_any il hf3 yD).mono ?_
  rintro e w28 ⟨rfl, k⟩
  have s28 := (s27.new k).turn
  clear s27 il k
  go_wp2
  go_ret
  exact ⟨rfl, s28.keeps.below (Nat.le_refl _) (fun _ _ e => e)⟩

end Go.Proofs.Ytkebpelpjkgdkab
