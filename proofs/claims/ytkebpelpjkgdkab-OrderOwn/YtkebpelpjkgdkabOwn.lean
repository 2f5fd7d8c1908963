import Derived.Test.YtkebpelpjkgdkabThree
import Derived.Test.YtkebpelpjkgdkabLists2
namespace Go.Proofs.Ytkebpelpjkgdkab
open Go.RowKit Go.Maps

/-- A queue and lists of one's own, all apart from one another and from what was there. -/
structure LS (w0 w : World) (q : Nat) (xs : List It) (ls : List (Value × List It)) : Prop where
  queue : ∃ F, QI w q xs F ∧ (∀ k ∈ F, w0.heap.size ≤ k) ∧ ∀ p ∈ ls, Dj F p.1.ownBlock.toList
  own : ∀ p ∈ ls, w.ownsRow w0.heap.size 32 2 p.1 p.2.length (flat p.2)
  apart : ls.Pairwise (fun p r => Dj p.1.ownBlock.toList r.1.ownBlock.toList)
  keeps : Keeps (fun _ => False) w0 w

section
variable {w0 w : World} {q : Nat} {xs : List It} {ls : List (Value × List It)}

theorem LS.perm (h : LS w0 w q xs ls) {ls' : List (Value × List It)} (hp : ls.Perm ls') : LS w0 w q xs ls' := by
  obtain ⟨F, hq, hF, hd⟩ := h.queue
  exact ⟨⟨F, hq, hF, fun p hp' => hd p (hp.mem_iff.2 hp')⟩, fun p hp' => h.own p (hp.mem_iff.2 hp'), (hp.pairwise_iff (fun h => h.symm)).1 h.apart, h.keeps⟩
theorem LS.new (h : LS w0 w q xs ls) {w' : World} (k : Keeps (fun _ => False) w w') : LS w0 w' q xs ls := by
  obtain ⟨F, hq, hF, hd⟩ := h.queue
  exact ⟨⟨F, hq.keep k (fun _ _ e => e), hF, hd⟩, fun p hp => k.owns (h.own p hp) (fun _ _ e => e), h.apart, h.keeps.trans k⟩
theorem LS.add (h : LS w0 w q xs ls) {w' : World} {v : Value} {X : List It} (ho : w'.ownsRow w.heap.size 32 2 v X.length (flat X)) (k : Keeps (fun _ => False) w w') : LS w0 w' q xs ((v, X) :: ls) := by
  have h1 := h.new k
  obtain ⟨F, hq, hF, hd⟩ := h1.queue
  have hb : ∀ g ∈ v.ownBlock.toList, w.heap.size ≤ g := fun g hg => owns_base' ho g (by simpa using hg)
  obtain ⟨F0, hq0, hF0, hd0⟩ := h.queue
  refine ⟨⟨F0, hq0.keep k (fun _ _ e => e), hF0, fun p hp => ?_⟩, fun p hp => ?_, ?_, h1.keeps⟩
  · rcases List.mem_cons.1 hp with rfl | hp
    · intro i hi hm; have := hb i hm; have := hq0.lt i hi; omega
    · exact hd0 p hp
  · rcases List.mem_cons.1 hp with rfl | hp
    · exact owns_mono' ho h.keeps.size
    · exact h1.own p hp
  · refine List.pairwise_cons.2 ⟨fun p hp i hi hm => ?_, h.apart⟩
    have := hb i hi
    have := owns_lt' (h.own p hp) i (by simpa using hm)
    omega
/-- The first list is written. -/
theorem LS.grow {v v' : Value} {X X' : List It} (h : LS w0 w q xs ((v, X) :: ls)) {w' : World} (ho : w'.ownsRow w0.heap.size 32 2 v' X'.length (flat X')) (k : Keeps (fun i => v.ownBlock = some i) w w') (hl : v'.ownBlock = v.ownBlock ∨ ∃ g, v'.ownBlock = some g ∧ w.heap.size ≤ g) : LS w0 w' q xs ((v', X') :: ls) := by
  obtain ⟨F, hq, hF, hd⟩ := h.queue
  obtain ⟨ha, hr⟩ := List.pairwise_cons.1 h.apart
  have hv := hd (v, X) (by simp)
  have hov := h.own (v, X) (by simp)
  refine ⟨⟨F, hq.keep k (fun i hi e => hv i hi (by simp [e])), hF, fun p hp => ?_⟩, fun p hp => ?_, ?_, ?_⟩
  · rcases List.mem_cons.1 hp with rfl | hp
    · rcases hl with e | ⟨g, e, hg⟩
      · show Dj F v'.ownBlock.toList; rw [e]; exact hv
      · show Dj F v'.ownBlock.toList; rw [e]; intro i hi hm; simp at hm; have := hq.lt i hi; omega
    · exact hd p (by simp [hp])
  · rcases List.mem_cons.1 hp with rfl | hp
    · exact ho
    · exact k.owns (h.own p (by simp [hp])) (fun g hg e => ha p hp g (by simp [e]) (by simp [hg]))
  · refine List.pairwise_cons.2 ⟨fun p hp => ?_, hr⟩
    rcases hl with e | ⟨g, e, hg⟩
    · show Dj v'.ownBlock.toList _; rw [e]; exact ha p hp
    · show Dj v'.ownBlock.toList _; rw [e]; intro i hi hm; simp at hi
      have := owns_lt' (h.own p (by simp [hp])) i (by simpa using hm); omega
  · exact h.keeps.trans' k (fun _ _ e => e) (fun i hi e => by have := owns_base' hov i e; omega)
theorem LS.il {v : Value} {X : List It} (h : LS w0 w q xs ((v, X) :: ls)) : ∃ a cap, v = .slice a X.length cap ∧ IL w a X := by
  obtain ⟨a, cap, e, hi, _⟩ := owns_il (h.own (v, X) (by simp)) rfl
  exact ⟨a, cap, e, hi⟩

/-- Marks. -/
def mks (n : Nat) (m : Int) : List It := List.replicate n (m, m)

set_option maxHeartbeats 3200000 in
set_option maxRecDepth 1000000 in
theorem mark_any {v : Value} {X : List It} (h : LS w0 w q xs ((v, X) :: ls)) (hl : X.length ≤ 9223372036854775807) (m : Int) :
    Calls Try.prog 22 #[v, .int .i64 m] w fun e w' => e = .returned (.tuple #[]) ∧ LS w0 w' q xs ((v, mks X.length m) :: ls) := by
  obtain ⟨a, cap, rfl, _⟩ := h.il
  go_enter Try.func22, Try.ntmps22
  go_wp2_with fail
  go_loopw [4] (fun iv wr => ∃ i : Nat, i ≤ X.length ∧ iv = .int .i64 i ∧ LS w0 wr q xs ((.slice a X.length cap, mks i m ++ X.drop i) :: ls)) (fun iv _ => X.length - (intOf iv).toNat)
  case atStart => exact ⟨0, Nat.zero_le _, rfl, by simpa [mks] using h⟩
  case round =>
    obtain ⟨i, hil, rfl, hr⟩ := hrel
    have hlen : Hid ((mks i m ++ X.drop i).length = X.length) := by show _ = _; simp [mks]; omega
    by_cases hlt : i < X.length
    · have hiI : (i : Int) < (X.length : Int) := by omega
      have ho := hr.own (.slice a X.length cap, mks i m ++ X.drop i) (by simp)
      simp only [hlen.out] at ho
      obtain ⟨g, cg, ev, _, _⟩ := ho.form (by omega)
      cases ev
      have c0 : wr.cell? ⟨g, i * 2, none⟩ = some (.int .i64 (ia (mks i m ++ X.drop i) i).1) := by rw [ho.cellAt (i * 2) (by omega), flat_get0 _ i (by rw [hlen.out]; exact hlt)]
      have c1 : wr.cell? ⟨g, i * 2 + 1, none⟩ = some (.int .i64 (ia (mks i m ++ X.drop i) i).2) := by rw [ho.cellAt (i * 2 + 1) (by omega), flat_get1 _ i (by rw [hlen.out]; exact hlt)]
      have z0 := ho.frozenAt (i * 2)
      have z1 := ho.frozenAt (i * 2 + 1)
      have st1 := ho.stored (i * 2) (.int .i64 m)
      have st2 := st1.1.stored (i * 2 + 1) (.int .i64 m)
      have hset : (mks i m ++ X.drop i).set i (m, m) = mks (i + 1) m ++ X.drop (i + 1) := by
        have hd : X.drop i = ia X i :: X.drop (i + 1) := by rw [ia_get hlt]; exact (List.getElem_cons_drop hlt).symm
        rw [hd, List.set_append_right _ _ (by simp [mks])]
        simp [mks, List.replicate_succ', List.append_assoc]
      have hfs := flat_set (mks i m ++ X.drop i) i (m, m) (by rw [hlen.out]; exact hlt)
      rw [← hfs, hset] at st2
      have K : Keeps (fun k => (Value.slice (some ⟨g, 0, none⟩) X.length cap).ownBlock = some k) wr ((wr.setCell ⟨g, i * 2, none⟩ (.int .i64 m)).setCell ⟨g, i * 2 + 1, none⟩ (.int .i64 m)) := ((Keeps.refl _ wr).grown st1.2 (fun _ _ e => e)).grown st2.2 (fun _ _ e => e)
      have hlen2 : (mks (i + 1) m ++ X.drop (i + 1)).length = X.length := by simp [mks]; omega
      have R := hr.grow (v' := .slice (some ⟨g, 0, none⟩) X.length cap) (X' := mks (i + 1) m ++ X.drop (i + 1)) (by rw [hlen2]; exact st2.1) K (.inl rfl)
      clear st1 st2 hfs hset ho hr hlen2 K
      go_wp2_with fail
      go_roundw
      case rel => exact ⟨i + 1, by omega, by go_num, R⟩
      case measure => simp [intOf]; omega
    · have hiI : ¬ (i : Int) < (X.length : Int) := by omega
      have he : i = X.length := by omega
      have hfin : mks i m ++ X.drop i = mks X.length m := by rw [he]; simp
      rw [hfin] at hr
      go_wp2_with fail
      first | go_end0 | ((try simp only [Exit.inBlock, Exit.then]); refine bodyPost_ret (results_none rfl _ _ _) rfl ?_)
      exact ⟨rfl, hr⟩

set_option maxHeartbeats 3200000 in
set_option maxRecDepth 1000000 in
theorem grown_any {v : Value} {n : Nat} {m : Int} (h : LS w0 w q xs ((v, mks n m) :: ls)) (hl : (n + 3) * 16 ≤ 140737488355328) :
    Calls Try.prog 23 #[v, .int .i64 m] w fun e w' => ∃ v', e = .returned v' ∧ LS w0 w' q xs ((v', mks (n + 3) m) :: ls) := by
  obtain ⟨i0, hi0, hz0, hz1, hz2⟩ := info_parts itemInfo2
  go_enter Try.func23, Try.ntmps23
  go_wp2_with fail
  go_loopw [0, 5] (fun lv iv wr => ∃ i : Nat, i ≤ 3 ∧ iv = .int .i64 i ∧ LS w0 wr q xs ((lv, mks (n + i) m) :: ls)) (fun _ iv _ => 3 - (intOf iv).toNat)
  case atStart => exact ⟨0, by omega, rfl, h⟩
  case round =>
    obtain ⟨i, hil, rfl, hr⟩ := hrel
    by_cases hlt : i < 3
    · have hiI : (i : Int) < 3 := by omega
      have ho := hr.own (u0, mks (n + i) m) (by simp)
      have hml : (mks (n + i) m).length = n + i := by simp [mks]
      simp only [hml] at ho
      have HO : Hid (wr.ownsRow w0.heap.size 32 2 u0 (n + i) (flat (mks (n + i) m))) := ho
      have h63 : n + i + 1 ≤ maxLen := by unfold maxLen; omega
      have hb16 : (n + i + 1) * 16 ≤ 140737488355328 := by omega
      have hsz := hr.keeps.size
      clear ho hml
      go_wp2_with ((at_builtin; refine wpList_append_lies _ rfl _ _ _ rfl w0.heap.size 32 i0 _ 2 16 underItems2 hi0 hz0 hz1 hz2 rfl (by decide) u0 (n + i) (flat (mks (n + i) m)) rfl (HO.out.alloc _) ⟨wr.heap.size, 0, none⟩ 1 1 [.int .i64 m, .int .i64 m] rfl rfl (World.news_of_block (cs := #[.int .i64 m, .int .i64 m]) (t := 32) (fr := (0, 0)) (heap_alloc_new wr _)) (by simp [Value.oneCell']) (by omega) h63 hb16 (by simp; omega) _ rfl ?_))
      intro g cg w4 hown4 hgrow hat hlt4
      have K4 : Keeps (fun k => u0.ownBlock = some k) wr w4 := ((Keeps.refl _ wr).alloc _).grown hgrow (fun _ _ e => e)
      have hml2 : (mks (n + (i + 1)) m).length = n + i + 1 := by simp [mks]; omega
      have hfl : flat (mks (n + (i + 1)) m) = flat (mks (n + i) m) ++ [.int .i64 m, .int .i64 m] := by
        have : mks (n + (i + 1)) m = mks (n + i) m ++ [(m, m)] := by unfold mks; rw [show n + (i + 1) = n + i + 1 by omega, List.replicate_succ']
        rw [this, flat_append]; rfl
      have R := hr.grow (v' := .slice (some ⟨g, 0, none⟩) (n + i + 1) cg) (X' := mks (n + (i + 1)) m) (by rw [hml2, hfl]; exact hown4) K4 (hat.elim (fun e => .inl e.symm) (fun e => .inr ⟨g, rfl, by rw [e]; simp⟩))
      clear hr hgrow hown4 hfl hml2 K4
      go_wp2_with fail
      go_roundw
      case rel => exact ⟨i + 1, by omega, by go_num, R⟩
      case measure => simp [intOf]; omega
    · have hiI : ¬ (i : Int) < 3 := by omega
      have he : i = 3 := by omega
      subst he
      go_wp2
      go_ret
      exact ⟨_, rfl, hr⟩

set_option maxHeartbeats 3200000 in
set_option maxRecDepth 1000000 in
theorem all_any {w : World} {a : Option Addr} {n : Nat} {m : Int} (h : IL w a (mks n m)) (hl : n ≤ 9223372036854775807) (cap : Nat) :
    Calls Try.prog 24 #[.slice a n cap, .int .i64 m] w fun e w' => e = .returned (.bool true) ∧ Keeps (fun _ => False) w w' := by
  have HI : Hid (IL w a (mks n m)) := h
  clear h
  go_enter Try.func24, Try.ntmps24
  go_wp2_with fail
  go_loopw [5] (fun iv wr => ∃ i : Nat, i ≤ n ∧ iv = .int .i64 i ∧ Keeps (fun _ => False) w wr) (fun iv _ => n - (intOf iv).toNat)
  case atStart => exact ⟨0, Nat.zero_le _, rfl, Keeps.refl _ _⟩
  case round =>
    obtain ⟨i, hi, rfl, k⟩ := hrel
    have hml : Hid ((mks n m).length = n) := by show _ = _; simp [mks]
    by_cases hlt : i < n
    · obtain ⟨b1, o1, rfl, _, hc⟩ := HI.out.some (by rw [hml.out]; omega)
      have hiI : (i : Int) < (n : Int) := by omega
      have c0 := k.cell (hc i (by rw [hml.out]; omega)).1 (fun e => e)
      have c1 := k.cell (hc i (by rw [hml.out]; omega)).2 (fun e => e)
      have hx : ia (mks n m) i = (m, m) := by unfold ia mks; simp [hlt]
      rw [hx] at c0 c1
      have hne : (m != m) = false := by simp
      clear hc hx
      go_wp2_with fail
      go_roundw
      case rel => exact ⟨i + 1, by omega, by go_num, k⟩
      case measure => simp [intOf]; omega
    · have hiI : ¬ (i : Int) < (n : Int) := by omega
      go_wp2
      go_ret
      exact ⟨rfl, k⟩
end
end Go.Proofs.Ytkebpelpjkgdkab
