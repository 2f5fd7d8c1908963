import Derived.Test.YtgjndhbfjofkeaaGreatDoorG01
namespace Go.Proofs.YtgjndhbfjofkeaaGreatDoor
open Go.RowKit
section
variable {w w' w1 : World} {mb g cap : Nat} {vc vl : Value} {s : Mm}
theorem keeps_set (w : World) (b o : Nat) (v : Value) : Keeps (fun k => k = b) w (w.setCell ⟨b, o, none⟩ v) := Keeps.setCell (S := fun k => k = b) (p := ⟨b, o, none⟩) (Keeps.refl _ w) (fun _ => rfl) _
theorem MV.make (h : MV w mb vc vl s) {x : Int} (hg : w.grownBy w1 vc.ownBlock)
    (ho : w1.ownsRow 0 91 2 (.slice (some ⟨g, 0, none⟩) (s.cells.length + 1) cap) (s.cells.length + 1) (fl ccells s.cells ++ [.int .i64 x, .int .i64 x])) (hat : vc.ownBlock = some g ∨ g = w.heap.size) :
    MV (w1.setCell ⟨mb, 0, none⟩ (.slice (some ⟨g, 0, none⟩) (s.cells.length + 1) cap)) mb (.slice (some ⟨g, 0, none⟩) (s.cells.length + 1) cap) vl (s.make x) ∧
      Keeps (fun k => vc.ownBlock = some k ∨ k = mb) w (w1.setCell ⟨mb, 0, none⟩ (.slice (some ⟨g, 0, none⟩) (s.cells.length + 1) cap)) := by
  have K1 : Keeps (fun k => vc.ownBlock = some k) w w1 := (Keeps.refl _ w).grown hg (fun _ _ e => e)
  have K2 := keeps_set w1 mb 0 (.slice (some ⟨g, 0, none⟩) (s.cells.length + 1) cap)
  have hl := h.lt
  have gm : g ≠ mb := by
    rcases hat with e | e
    · exact fun e' => h.nc (e' ▸ e)
    · omega
  have o : ∀ k v, k ≠ 0 → w.cell? ⟨mb, k, none⟩ = some v → (w1.setCell ⟨mb, 0, none⟩ (.slice (some ⟨g, 0, none⟩) (s.cells.length + 1) cap)).cell? ⟨mb, k, none⟩ = some v := fun k v hk hv => by
    rw [World.cell?_setCell_other _ _ _ _ (fun e => by cases e; exact hk rfl)]; exact K1.cell hv h.nc
  have rl1 := K1.owns h.rl (fun k e e' => h.nn k e' e)
  refine ⟨⟨World.cell?_setCell_same _ _ _ (K1.cell h.f0 h.nc), o _ _ (by decide) h.f1, o _ _ (by decide) h.f2, o _ _ (by decide) h.f3, o _ _ (by decide) h.f4, o _ _ (by decide) h.f5, fun k hk => ?_, ?_, K2.owns rl1 (fun k e e' => h.nl (e' ▸ e)), ?_, h.nl, ?_⟩, K1.trans' K2 (fun _ _ e => .inl e) (fun _ _ e => .inr e)⟩
  · rw [World.frozen?_setCell]; exact (K1.frozen (p := ⟨mb, k, none⟩) hl h.nc).trans (h.z k hk)
  · have e : (s.make x).cells.length = s.cells.length + 1 := by simp [Mm.make]
    have e' : fl ccells (s.make x).cells = fl ccells s.cells ++ [.int .i64 x, .int .i64 x] := by simp only [Mm.make, fl_append]; rfl
    rw [e, e']
    exact K2.owns ho (fun k e => by cases e; exact gm)
  · intro e; cases e; exact gm rfl
  · intro k e e'
    cases e
    rcases hat with e2 | e2
    · exact h.nn _ e2 e'
    · have h9 : g < w.heap.size := owns_lt' h.rl _ e'
      omega
theorem MV.logged (h : MV w mb vc vl s) {r : Rw} (hg : w.grownBy w1 vl.ownBlock)
    (ho : w1.ownsRow 0 167 7 (.slice (some ⟨g, 0, none⟩) (s.log.length + 1) cap) (s.log.length + 1) (fl rcells s.log ++ rcells r)) (hat : vl.ownBlock = some g ∨ g = w.heap.size) :
    MV (w1.setCell ⟨mb, 1, none⟩ (.slice (some ⟨g, 0, none⟩) (s.log.length + 1) cap)) mb vc (.slice (some ⟨g, 0, none⟩) (s.log.length + 1) cap) { s with log := s.log ++ [r] } ∧
      Keeps (fun k => vl.ownBlock = some k ∨ k = mb) w (w1.setCell ⟨mb, 1, none⟩ (.slice (some ⟨g, 0, none⟩) (s.log.length + 1) cap)) := by
  have K1 : Keeps (fun k => vl.ownBlock = some k) w w1 := (Keeps.refl _ w).grown hg (fun _ _ e => e)
  have K2 := keeps_set w1 mb 1 (.slice (some ⟨g, 0, none⟩) (s.log.length + 1) cap)
  have hl := h.lt
  have gm : g ≠ mb := by
    rcases hat with e | e
    · exact fun e' => h.nl (e' ▸ e)
    · omega
  have o : ∀ k v, k ≠ 1 → w.cell? ⟨mb, k, none⟩ = some v → (w1.setCell ⟨mb, 1, none⟩ (.slice (some ⟨g, 0, none⟩) (s.log.length + 1) cap)).cell? ⟨mb, k, none⟩ = some v := fun k v hk hv => by
    rw [World.cell?_setCell_other _ _ _ _ (fun e => by cases e; exact hk rfl)]; exact K1.cell hv h.nl
  have rc1 := K1.owns h.rc (fun k e e' => h.nn k e e')
  refine ⟨⟨o _ _ (by decide) h.f0, World.cell?_setCell_same _ _ _ (K1.cell h.f1 h.nl), o _ _ (by decide) h.f2, o _ _ (by decide) h.f3, o _ _ (by decide) h.f4, o _ _ (by decide) h.f5, fun k hk => ?_, K2.owns rc1 (fun k e e' => h.nc (e' ▸ e)), ?_, h.nc, ?_, ?_⟩, K1.trans' K2 (fun _ _ e => .inl e) (fun _ _ e => .inr e)⟩
  · rw [World.frozen?_setCell]; exact (K1.frozen (p := ⟨mb, k, none⟩) hl h.nl).trans (h.z k hk)
  · have e : (s.log ++ [r]).length = s.log.length + 1 := by simp
    have e' : fl rcells (s.log ++ [r]) = fl rcells s.log ++ rcells r := by simp only [fl_append]; rfl
    show World.ownsRow _ _ _ _ _ (s.log ++ [r]).length (fl rcells (s.log ++ [r]))
    rw [e, e']
    exact K2.owns ho (fun k e => by cases e; exact gm)
  · intro e; cases e; exact gm rfl
  · intro k e e'
    cases e'
    rcases hat with e2 | e2
    · exact h.nn _ e e2
    · have h9 : g < w.heap.size := owns_lt' h.rc _ e
      omega
theorem MV.set (h : MV w mb vc vl s) {g c : Nat} (hg : vc.ownBlock = some g) (hc : c < s.cells.length) (u : Int) :
    MV (w.setCell ⟨g, c * 2 + 1, none⟩ (.int .i64 u)) mb vc vl { s with cells := s.cells.set c ((ca s.cells c).1, u) } ∧ Keeps (fun k => k = g) w (w.setCell ⟨g, c * 2 + 1, none⟩ (.int .i64 u)) := by
  have K := keeps_set w g (c * 2 + 1) (.int .i64 u)
  have gm : ¬ mb = g := fun e => h.nc (e ▸ hg)
  refine ⟨⟨K.cell h.f0 gm, K.cell h.f1 gm, K.cell h.f2 gm, K.cell h.f3 gm, K.cell h.f4 gm, K.cell h.f5 gm, fun k hk => (K.frozen (p := ⟨mb, k, none⟩) h.lt gm).trans (h.z k hk), ?_, K.owns h.rl (fun k e e' => h.nn g hg (e' ▸ e)), h.nc, h.nl, h.nn⟩, K⟩
  have hr := h.rc
  obtain ⟨a, cp, rfl, hs⟩ := h.slice
  obtain ⟨g', e1, e2⟩ := hs (by omega)
  rw [hg] at e2
  cases e2
  subst e1
  obtain ⟨r1, _⟩ := hr.stored (c * 2 + 1) (.int .i64 u)
  have e : fl ccells (s.cells.set c ((ca s.cells c).1, u)) = (fl ccells s.cells).set (c * 2 + 1) (.int .i64 u) := fl_set ccells_len s.cells c 1 _ _ _ (ca_get hc) (by omega) rfl
  show World.ownsRow _ _ _ _ _ (s.cells.set c ((ca s.cells c).1, u)).length (fl ccells (s.cells.set c ((ca s.cells c).1, u)))
  rw [List.length_set, e]
  exact r1
theorem MV.free (h : MV w mb vc vl s) (b : Bool) : MV (w.setCell ⟨mb, 5, none⟩ (.bool b)) mb vc vl { s with free := b } := by
  have K := keeps_set w mb 5 (.bool b)
  have o : ∀ k v, k ≠ 5 → w.cell? ⟨mb, k, none⟩ = some v → (w.setCell ⟨mb, 5, none⟩ (.bool b)).cell? ⟨mb, k, none⟩ = some v := fun k v hk hv => by
    rw [World.cell?_setCell_other _ _ _ _ (fun e => by cases e; exact hk rfl)]; exact hv
  exact ⟨o _ _ (by decide) h.f0, o _ _ (by decide) h.f1, o _ _ (by decide) h.f2, o _ _ (by decide) h.f3, o _ _ (by decide) h.f4, World.cell?_setCell_same _ _ _ h.f5, fun k hk => by rw [World.frozen?_setCell]; exact h.z k hk, K.owns h.rc (fun k e e' => h.nc (e' ▸ e)), K.owns h.rl (fun k e e' => h.nl (e' ▸ e)), h.nc, h.nl, h.nn⟩
theorem MV.begun (h : MV w mb vc vl s) (b : Bool) : MV (w.setCell ⟨mb, 4, none⟩ (.bool b)) mb vc vl { s with begun := b } := by
  have K := keeps_set w mb 4 (.bool b)
  have o : ∀ k v, k ≠ 4 → w.cell? ⟨mb, k, none⟩ = some v → (w.setCell ⟨mb, 4, none⟩ (.bool b)).cell? ⟨mb, k, none⟩ = some v := fun k v hk hv => by
    rw [World.cell?_setCell_other _ _ _ _ (fun e => by cases e; exact hk rfl)]; exact hv
  exact ⟨o _ _ (by decide) h.f0, o _ _ (by decide) h.f1, o _ _ (by decide) h.f2, o _ _ (by decide) h.f3, World.cell?_setCell_same _ _ _ h.f4, o _ _ (by decide) h.f5, fun k hk => by rw [World.frozen?_setCell]; exact h.z k hk, K.owns h.rc (fun k e e' => h.nc (e' ▸ e)), K.owns h.rl (fun k e e' => h.nl (e' ▸ e)), h.nc, h.nl, h.nn⟩
theorem MV.thread (h : MV w mb vc vl s) (b : Int) : MV (w.setCell ⟨mb, 3, none⟩ (.int .i64 b)) mb vc vl { s with thread := b } := by
  have K := keeps_set w mb 3 (.int .i64 b)
  have o : ∀ k v, k ≠ 3 → w.cell? ⟨mb, k, none⟩ = some v → (w.setCell ⟨mb, 3, none⟩ (.int .i64 b)).cell? ⟨mb, k, none⟩ = some v := fun k v hk hv => by
    rw [World.cell?_setCell_other _ _ _ _ (fun e => by cases e; exact hk rfl)]; exact hv
  exact ⟨o _ _ (by decide) h.f0, o _ _ (by decide) h.f1, o _ _ (by decide) h.f2, World.cell?_setCell_same _ _ _ h.f3, o _ _ (by decide) h.f4, o _ _ (by decide) h.f5, fun k hk => by rw [World.frozen?_setCell]; exact h.z k hk, K.owns h.rc (fun k e e' => h.nc (e' ▸ e)), K.owns h.rl (fun k e e' => h.nl (e' ▸ e)), h.nc, h.nl, h.nn⟩
theorem MV.stepped (h : MV w mb vc vl s) (b : Int) : MV (w.setCell ⟨mb, 2, none⟩ (.int .i64 b)) mb vc vl { s with step := b } := by
  have K := keeps_set w mb 2 (.int .i64 b)
  have o : ∀ k v, k ≠ 2 → w.cell? ⟨mb, k, none⟩ = some v → (w.setCell ⟨mb, 2, none⟩ (.int .i64 b)).cell? ⟨mb, k, none⟩ = some v := fun k v hk hv => by
    rw [World.cell?_setCell_other _ _ _ _ (fun e => by cases e; exact hk rfl)]; exact hv
  exact ⟨o _ _ (by decide) h.f0, o _ _ (by decide) h.f1, World.cell?_setCell_same _ _ _ h.f2, o _ _ (by decide) h.f3, o _ _ (by decide) h.f4, o _ _ (by decide) h.f5, fun k hk => by rw [World.frozen?_setCell]; exact h.z k hk, K.owns h.rc (fun k e e' => h.nc (e' ▸ e)), K.owns h.rl (fun k e e' => h.nl (e' ▸ e)), h.nc, h.nl, h.nn⟩
theorem MV.begin (h : MV w mb vc vl s) (st th : Int) :
    MV ((((w.setCell ⟨mb, 2, none⟩ (.int .i64 st)).setCell ⟨mb, 3, none⟩ (.int .i64 th)).setCell ⟨mb, 4, none⟩ (.bool true)).setCell ⟨mb, 5, none⟩ (.bool true)) mb vc vl (s.begin st th) ∧
      Keeps (fun k => k = mb) w ((((w.setCell ⟨mb, 2, none⟩ (.int .i64 st)).setCell ⟨mb, 3, none⟩ (.int .i64 th)).setCell ⟨mb, 4, none⟩ (.bool true)).setCell ⟨mb, 5, none⟩ (.bool true)) :=
  ⟨(((h.stepped st).thread th).begun true).free true, (((keeps_set _ _ _ _).trans (keeps_set _ _ _ _)).trans (keeps_set _ _ _ _)).trans (keeps_set _ _ _ _)⟩
end
theorem wordInfo : (Tryz.prog.info? 91).map (fun i => (i.zero, i.size, i.bytes)) = some (some (.agg #[.int .i64 0, .int .i64 0]), 2, 16) := by kernel_rfl
theorem underWords : Tryz.prog.underlying 92 = some (.slice 91) := by kernel_rfl
theorem rowInfo : (Tryz.prog.info? 167).map (fun i => (i.zero, i.size, i.bytes)) = some (some (rv rw0), 7, 56) := by kernel_rfl
theorem underRows : Tryz.prog.underlying 93 = some (.slice 167) := by kernel_rfl
set_option maxHeartbeats 800000 in
set_option maxRecDepth 1000000 in
theorem new_any (w : World) : Calls Tryz.prog 49 #[] w fun e w' => e = .returned (.pointer (some ⟨w.heap.size, 0, none⟩)) ∧ MI w' w.heap.size Mm.new [w.heap.size] ∧ Keeps (fun _ => False) w w' := by
  go_enter Tryz.func49, Tryz.ntmps49
  go_wp2
  go_ret
  refine ⟨rfl, ⟨.slice none 0 0, .slice none 0 0, ⟨by simp, by simp, by simp [Mm.new], by simp [Mm.new], by simp [Mm.new], by simp [Mm.new], fun o _ => by simp, World.ownsRow_nil _ _ _ _, World.ownsRow_nil _ _ _ _, by simp [Value.ownBlock], by simp [Value.ownBlock], by simp [Value.ownBlock]⟩, rfl⟩, (Keeps.refl _ w).alloc _⟩
set_option maxHeartbeats 800000 in
set_option maxRecDepth 1000000 in
theorem size_any {w : World} {mb : Nat} {s : Mm} {F : List Nat} (h : MI w mb s F) : Calls Tryz.prog 65 #[.pointer (some ⟨mb, 0, none⟩)] w fun e w' => e = .returned (.int .i64 s.cells.length) ∧ w' = w := by
  obtain ⟨vc, vl, h, rfl⟩ := h
  obtain ⟨a, cap, rfl, _⟩ := h.slice
  have f0 := h.f0
  go_enter Tryz.func65, Tryz.ntmps65
  go_wp2
  go_ret
  exact ⟨rfl, rfl⟩
def Mm.there (s : Mm) (c : Int) : Bool := decide (0 ≤ c) && decide (c < (s.cells.length : Int))
set_option maxHeartbeats 800000 in
set_option maxRecDepth 1000000 in
theorem has_any {w : World} {mb : Nat} {s : Mm} {F : List Nat} (h : MI w mb s F) (c : Int) : Calls Tryz.prog 40 #[.pointer (some ⟨mb, 0, none⟩), .int .i64 c] w fun e w' => e = .returned (.bool (s.there c)) ∧ w' = w := by
  by_cases h0 : 0 ≤ c
  · have h0' : decide (0 ≤ c) = true := by simp [h0]
    have e : s.there c = decide (c < (s.cells.length : Int)) := by simp [Mm.there, h0]
    rw [e]
    have hs := size_any h
    go_enter Tryz.func40, Tryz.ntmps40
    go_wp2_with (go_at_call 65; refine hs.mono ?_; rintro e w' ⟨rfl, rfl⟩)
    go_ret
    exact ⟨rfl, rfl⟩
  · have h0' : decide (0 ≤ c) = false := by simp [h0]
    have e : s.there c = false := by simp [Mm.there]; omega
    rw [e]
    go_enter Tryz.func40, Tryz.ntmps40
    go_wp2_with fail
    go_ret
    exact ⟨rfl, rfl⟩
theorem peq (mb : Nat) : ∀ w : World, (binOp .eql 41 (.pointer (some ⟨mb, 0, none⟩)) (.pointer none)).run Tryz.prog w = .ok (.bool false) w := fun w => by kernel_rfl
set_option maxHeartbeats 1600000 in
set_option maxRecDepth 1000000 in
theorem make_any {w : World} {mb : Nat} {s : Mm} {F : List Nat} (h : MI w mb s F) (x : Int) (hl : s.cells.length < 65536) :
    Calls Tryz.prog 50 #[.pointer (some ⟨mb, 0, none⟩), .int .i64 x] w fun e w' => e = .returned (.tuple #[.int .i64 s.cells.length, .int .i64 0]) ∧ ∃ F', MI w' mb (s.make x) F' ∧ Left w w' F F' := by
  obtain ⟨vc, vl, h, rfl⟩ := h
  have hp := peq mb
  obtain ⟨a, cap, hva, _⟩ := h.slice
  have f0 := h.f0
  have z0 := h.z 0 (by omega)
  have hlI : (s.cells.length : Int) < 65536 := by omega
  have lm := h.lt
  have H : Hid (MV w mb vc vl s) := h
  have HO : Hid (w.ownsRow 0 91 2 vc s.cells.length (fl ccells s.cells)) := h.rc
  have nc := h.nc
  obtain ⟨i0, hi0, hz0, hz1, hz2⟩ := info_parts wordInfo
  have h63 : s.cells.length + 1 ≤ maxLen := by unfold maxLen; omega
  have hb : (s.cells.length + 1) * 16 ≤ 140737488355328 := by omega
  subst hva
  clear h
  go_enter Tryz.func50, Tryz.ntmps50
  go_wp2_with ((at_builtin; refine wpList_append_lies _ rfl _ _ _ rfl 0 91 i0 _ 2 16 underWords hi0 hz0 hz1 hz2 rfl (by decide) (.slice a s.cells.length cap) s.cells.length (fl ccells s.cells) rfl (HO.out.alloc _) ⟨w.heap.size, 0, none⟩ 1 1 [.int .i64 x, .int .i64 x] rfl rfl (World.news_of_block (cs := #[.int .i64 x, .int .i64 x]) (t := 91) (fr := (0, 0)) (heap_alloc_new w _)) (by simp [Value.oneCell']) (by omega) h63 hb (by simp) _ rfl ?_))
  intro gg cap1 w1 hown1 hgrow hat hlt1
  have KA : Keeps (fun _ => False) w (w.alloc (.cells #[.int .i64 x, .int .i64 x] 91)) := (Keeps.refl _ w).alloc _
  have hA := H.out.new KA
  obtain ⟨h1, k1⟩ := hA.make hgrow hown1 (hat.imp id (fun e => by rw [e]; simp))
  have r1 : w1.cell? ⟨mb, 0, none⟩ = some (.slice a s.cells.length cap) := hgrow.cell (KA.cell f0 (fun e => e)) (Ne.symm nc)
  have r2 : w1.frozen? ⟨mb, 0, none⟩ = false := (hgrow.frozen_far ⟨mb, 0, none⟩ (by simp; omega) (Ne.symm nc)).trans ((KA.frozen (p := ⟨mb, 0, none⟩) lm (fun e => e)).trans z0)
  clear f0 z0
  go_wp2_with fail
  go_ret2
  refine ⟨by go_num, _, ⟨_, _, h1, rfl⟩, ?_, ?_⟩
  · refine (KA.mono (fun _ _ e => e.elim)).trans' k1 (fun _ _ e => e) (fun i _ e => ?_)
    rcases e with e | e
    · simp [e]
    · simp [e]
  · intro k hk
    simp only [List.mem_cons, List.mem_append, Option.mem_toList] at hk ⊢
    rcases hk with e | e | e
    · exact .inl (.inl e)
    · cases e
      rcases hat with e | e
      · exact .inl (.inr (.inl e))
      · exact .inr (by rw [e]; simp)
    · exact .inl (.inr (.inr e))
def Mm.may (s : Mm) (st th : Int) : Bool := decide (0 ≤ st) && decide (0 ≤ th) && !(s.begun && decide (st ≤ s.step))
set_option maxHeartbeats 1600000 in
set_option maxRecDepth 1000000 in
theorem begin_ok {w : World} {mb : Nat} {s : Mm} {F : List Nat} (h : MI w mb s F) (st th : Int) (hm : s.may st th = true) :
    Calls Tryz.prog 48 #[.pointer (some ⟨mb, 0, none⟩), .int .i64 st, .int .i64 th] w fun e w' => e = .returned (.int .i64 0) ∧ MI w' mb (s.begin st th) F ∧ Left w w' F F := by
  obtain ⟨vc, vl, h, rfl⟩ := h
  have hp := peq mb
  have c2 := h.f2
  have c3 := h.f3
  have c4 := h.f4
  have c5 := h.f5
  have z2 := h.z 2 (by omega)
  have z3 := h.z 3 (by omega)
  have z4 := h.z 4 (by omega)
  have z5 := h.z 5 (by omega)
  obtain ⟨h1, k1⟩ := h.begin st th
  have fin : MI ((((w.setCell ⟨mb, 2, none⟩ (.int .i64 st)).setCell ⟨mb, 3, none⟩ (.int .i64 th)).setCell ⟨mb, 4, none⟩ (.bool true)).setCell ⟨mb, 5, none⟩ (.bool true)) mb (s.begin st th) (mb :: (vc.ownBlock.toList ++ vl.ownBlock.toList)) ∧ Left w ((((w.setCell ⟨mb, 2, none⟩ (.int .i64 st)).setCell ⟨mb, 3, none⟩ (.int .i64 th)).setCell ⟨mb, 4, none⟩ (.bool true)).setCell ⟨mb, 5, none⟩ (.bool true)) (mb :: (vc.ownBlock.toList ++ vl.ownBlock.toList)) (mb :: (vc.ownBlock.toList ++ vl.ownBlock.toList)) :=
    ⟨⟨vc, vl, h1, rfl⟩, k1.mono (fun _ _ e => by simp [e]), fun _ e => .inl e⟩
  have FI : Hid (_ ∧ _) := fin
  clear fin h1 k1 h
  simp only [Mm.may, Bool.and_eq_true, decide_eq_true_eq] at hm
  obtain ⟨⟨m1, m2⟩, m3⟩ := hm
  have b1 : decide (st < 0) = false := by simp; omega
  have b2 : decide (th < 0) = false := by simp; omega
  clear m1 m2
  cases hb : s.begun with
  | false =>
    rw [hb] at c4
    go_enter Tryz.func48, Tryz.ntmps48
    go_wp2_with fail
    go_ret
    exact ⟨rfl, FI.out⟩
  | true =>
    rw [hb] at c4 m3
    have b3 : decide (st ≤ s.step) = false := by simpa using m3
    clear m3
    go_enter Tryz.func48, Tryz.ntmps48
    go_wp2_with fail
    go_ret
    exact ⟨rfl, FI.out⟩
theorem there_ok {s : Mm} {c : Nat} (h : c < s.cells.length) : s.there c = true := by simp [Mm.there, h]
set_option maxHeartbeats 1600000 in
set_option maxRecDepth 1000000 in
theorem peek_any {w : World} {mb : Nat} {s : Mm} {F : List Nat} (h : MI w mb s F) {c : Nat} (hc : c < s.cells.length) :
    Calls Tryz.prog 17 #[.pointer (some ⟨mb, 0, none⟩), .int .i64 (c : Int)] w fun e w' => e = .returned (.tuple #[.int .i64 (ca s.cells c).2, .int .i64 0]) ∧ w' = w := by
  have hh := has_any h (c : Int)
  rw [there_ok hc] at hh
  obtain ⟨vc, vl, h, rfl⟩ := h
  obtain ⟨a, cap, rfl, hs⟩ := h.slice
  obtain ⟨g, rfl, hg⟩ := hs (by omega)
  have f0 := h.f0
  have c1 := (h.cell hg hc).2
  have hcI : (c : Int) < (s.cells.length : Int) := by omega
  clear h hs hg
  go_enter Tryz.func17, Tryz.ntmps17
  go_wp2_with (go_at_call 40; refine hh.mono ?_; rintro e w' ⟨rfl, rfl⟩)
  go_ret2
  exact ⟨rfl, rfl⟩
end Go.Proofs.YtgjndhbfjofkeaaGreatDoor

namespace Go.Proofs.YtgjndhbfjofkeaaGreatDoor
open Go.RowKit
set_option maxHeartbeats 800000 in
set_option maxRecDepth 1000000 in
theorem loadw_any (w : World) (v : Int) : Calls Tryz.prog 158 #[.int .i64 v] w fun e w' => e = .returned (.tuple #[.int .i64 v, .bool true]) ∧ w' = w := by
  go_enter Tryz.func158, Tryz.ntmps158
  go_wp2
  go_ret2
  exact ⟨rfl, rfl⟩
set_option maxHeartbeats 800000 in
set_option maxRecDepth 1000000 in
theorem addw_any {w : World} {b : Nat} {by_ : Int} (h : w.cell? ⟨b, 0, none⟩ = some (.int .i64 by_)) (v : Int) : Calls Tryz.prog 101 #[.int .i64 v, .pointer (some ⟨b, 0, none⟩)] w fun e w' => e = .returned (.tuple #[.int .i64 (wrap64 (v + by_)), .bool true]) ∧ w' = w := by
  go_enter Tryz.func101, Tryz.ntmps101
  go_wp2
  go_ret2
  exact ⟨rfl, rfl⟩
set_option maxHeartbeats 800000 in
set_option maxRecDepth 1000000 in
theorem swapw_any {w : World} {b b' : Nat} {old next : Int} (h : w.cell? ⟨b, 0, none⟩ = some (.int .i64 old)) (h' : w.cell? ⟨b', 0, none⟩ = some (.int .i64 next)) (v : Int) :
    Calls Tryz.prog 171 #[.int .i64 v, .pointer (some ⟨b, 0, none⟩), .pointer (some ⟨b', 0, none⟩)] w fun e w' => e = .returned (.tuple #[.int .i64 (if v = old then next else v), .bool (decide (v = old))]) ∧ w' = w := by
  by_cases hv : v = old
  · have hv' : (v != old) = false := by simp [hv]
    have e1 : (if v = old then next else v) = next := if_pos hv
    have e2 : decide (v = old) = true := by simp [hv]
    rw [e1, e2]
    clear e1 e2 hv
    go_enter Tryz.func171, Tryz.ntmps171
    go_wp2
    go_ret2
    exact ⟨rfl, rfl⟩
  · have hv' : (v != old) = true := by simp [hv]
    have e1 : (if v = old then next else v) = v := if_neg hv
    have e2 : decide (v = old) = false := by simp [hv]
    rw [e1, e2]
    clear e1 e2 hv
    go_enter Tryz.func171, Tryz.ntmps171
    go_wp2
    go_ret2
    exact ⟨rfl, rfl⟩
theorem keeps_set7 (w : World) (b : Nat) (v0 v1 v2 v3 v4 v5 v6 : Value) : Keeps (fun k => k = b) w (((((((w.setCell ⟨b, 0, none⟩ v0).setCell ⟨b, 1, none⟩ v1).setCell ⟨b, 2, none⟩ v2).setCell ⟨b, 3, none⟩ v3).setCell ⟨b, 4, none⟩ v4).setCell ⟨b, 5, none⟩ v5).setCell ⟨b, 6, none⟩ v6) :=
  ((((((keeps_set _ _ _ _).trans (keeps_set _ _ _ _)).trans (keeps_set _ _ _ _)).trans (keeps_set _ _ _ _)).trans (keeps_set _ _ _ _)).trans (keeps_set _ _ _ _)).trans (keeps_set _ _ _ _)
set_option maxHeartbeats 3200000 in
set_option maxRecDepth 1000000 in
theorem access_load {w : World} {mb : Nat} {s : Mm} {F : List Nat} (h : MI w mb s F) {c : Nat} (hc : c < s.cells.length) (hfr : s.free = true) (hlog : (s.log.length + 1) * 56 ≤ 140737488355328) (kind wrote : Int) (done : Bool) 
    (hw : ∀ W, Keeps (fun _ => False) w W → Calls Tryz.prog 158 #[.int .i64 (ca s.cells c).2] W fun e W' => e = .returned (.tuple #[.int .i64 wrote, .bool done]) ∧ W' = W) :
    Calls Tryz.prog 100 #[.pointer (some ⟨mb, 0, none⟩), .int .i64 kind, .int .i64 (c : Int), .func (.func 158) #[] #[]] w fun e w' =>
      e = .returned (.tuple #[.agg #[.int .i64 s.step, .int .i64 s.thread, .int .i64 kind, .int .i64 (c : Int), .int .i64 (ca s.cells c).2, .int .i64 wrote, .bool done], .int .i64 0]) ∧ ∃ F', MI w' mb (s.take kind c wrote done) F' ∧ Left w w' F F' := by
  obtain ⟨w0, hw0⟩ : ∃ w0, w0 = w.alloc (.cells #[.int .i64 0, .int .i64 0, .int .i64 0, .int .i64 0, .int .i64 0, .int .i64 0, .bool false] 167) := ⟨_, rfl⟩
  have K0 : Keeps (fun _ => False) w w0 := by rw [hw0]; exact (Keeps.refl _ w).alloc _
  have B0 : RowAt w0 w.heap.size 0 rw0 := by rw [hw0]; constructor <;> simp [rw0]
  have Z0 : ∀ o, w0.frozen? ⟨w.heap.size, o, none⟩ = false := fun o => by rw [hw0]; simp
  have sz0 : Hid (w0.heap.size = w.heap.size + 1) := by show _ = _; rw [hw0]; simp
  have hw1 := hw w0 K0
  clear hw
  have hh := has_any (h.new K0) (c : Int)
  rw [there_ok hc] at hh
  obtain ⟨vc, vl, h, rfl⟩ := h
  have h0 := h.new K0
  have H : Hid (MV w0 mb vc vl s) := h0
  obtain ⟨a, cap, rfl, hs⟩ := h0.slice
  obtain ⟨g, rfl, hg⟩ := hs (by omega)
  have f0 := h0.f0
  have f2 := h0.f2
  have f3 := h0.f3
  have f5 := h0.f5
  rw [hfr] at f5
  have cc := (h0.cell hg hc).2
  have hcI : (c : Int) < (s.cells.length : Int) := by omega
  have hrc := h.rc
  have hrl := h.rl
  have hlm := h.lt
  have hnl := h.nl
  have hnc := h.nc
  clear h h0 hs
  go_enter Tryz.func100, Tryz.ntmps100
  go_wp2_with fail
  rw [← hw0]
  clear hw0
  go_wp2_with (first | (go_at_call 40; refine hh.mono ?_; clear hh; rintro e w0 ⟨rfl, rfl⟩) | (go_at_call 158; refine hw1.mono ?_; clear hw1; rintro e w0 ⟨rfl, rfl⟩))
  have q2 : ∀ ob, (w0.alloc ob).cell? ⟨mb, 2, none⟩ = some (.int .i64 s.step) := fun ob => ((Keeps.refl (fun _ => False) w0).alloc ob).cell f2 (fun e => e)
  have q3 : ∀ ob, (w0.alloc ob).cell? ⟨mb, 3, none⟩ = some (.int .i64 s.thread) := fun ob => ((Keeps.refl (fun _ => False) w0).alloc ob).cell f3 (fun e => e)
  go_region
  obtain ⟨w2, hw2⟩ : ∃ w2, w2 = World.drew (w0.alloc (.cells #[.int .i64 s.step, .int .i64 s.thread, .int .i64 kind, .int .i64 (c : Int), .int .i64 (ca s.cells c).2, .int .i64 wrote, .bool done] 167)) := ⟨_, rfl⟩
  have K2 : Keeps (fun _ => False) w0 w2 := by rw [hw2]; exact ((Keeps.refl _ w0).alloc _).drew
  have R2 : RowAt w2 w0.heap.size 0 (s.row kind c wrote done) := by rw [hw2]; constructor <;> simp [Mm.row]
  have sz2 : Hid (w2.heap.size = w0.heap.size + 1) := by show _ = _; rw [hw2]; simp
  rw [← hw2]
  clear hw2 q2 q3 f2 f3 f5
  have H2 := H.out.new K2
  replace f0 := H2.f0
  replace cc := (H2.cell hg hc).2
  have zg : w2.frozen? ⟨g, c * 2 + 1, none⟩ = false := H2.rc.frozenAt _
  obtain ⟨H3, K3⟩ := H2.set hg hc wrote
  have lg : g < w.heap.size := owns_lt' hrc g hg
  have R3 := R2.keep K3 (by have := K0.size; omega)
  clear R2
  obtain ⟨w3, hw3⟩ : ∃ w3, w3 = w2.setCell ⟨g, c * 2 + 1, none⟩ (.int .i64 wrote) := ⟨_, rfl⟩
  have sz3 : Hid (w3.heap.size = w0.heap.size + 1) := by show _ = _; rw [hw3]; simp; exact sz2.out
  go_wp2_with fail
  rw [← hw3] at H3 K3 R3 ⊢
  clear hw3 cc zg f0
  have f1 := H3.f1
  have z1 := H3.z 1 (by omega)
  have r0 := R3.r0
  have r1 := R3.r1
  have r2 := R3.r2
  have r3 := R3.r3
  have r4 := R3.r4
  have r5 := R3.r5
  have r6 := R3.r6
  simp only [Mm.row] at r0 r1 r2 r3 r4 r5 r6
  have nl := H3.nl
  have HO : Hid (w3.ownsRow 0 167 7 vl s.log.length (fl rcells s.log)) := H3.rl
  have HM : Hid (MV w3 mb (.slice (some ⟨g, 0, none⟩) s.cells.length cap) vl { s with cells := s.cells.set c ((ca s.cells c).1, wrote) }) := H3
  have lm : mb < w.heap.size := hlm
  clear H3
  obtain ⟨i0, hi0, hz0, hz1, hz2⟩ := info_parts rowInfo
  have h63 : s.log.length + 1 ≤ maxLen := by unfold maxLen; omega
  have q1 : ∀ ob, (w3.alloc ob).cell? ⟨mb, 1, none⟩ = some vl := fun ob => ((Keeps.refl (fun _ => False) w3).alloc ob).cell f1 (fun e => e)
  have ka : ∀ (ob : Obj), (w3.alloc ob).drew.cell? ⟨mb, 1, none⟩ = some vl ∧ (w3.alloc ob).drew.frozen? ⟨mb, 1, none⟩ = false := fun ob =>
    ⟨(((Keeps.refl (fun _ => False) w3).alloc ob).drew).cell f1 (fun e => e), ((((Keeps.refl (fun _ => False) w3).alloc ob).drew).frozen (p := ⟨mb, 1, none⟩) (World.block_lt_of_cell? _ _ f1) (fun e => e)).trans z1⟩
  have lm3 : mb < w3.heap.size := World.block_lt_of_cell? _ _ f1
  go_region_law ((refine step_append_lies _ (by rfl) _ _ _ (by rfl) 0 167 i0 _ 7 56 underRows hi0 hz0 hz1 hz2 rfl (by omega) vl s.log.length (fl rcells s.log) (by rfl) ((HO.out.alloc _).drew) ⟨w3.heap.size, 0, none⟩ 1 1 [.int .i64 s.step, .int .i64 s.thread, .int .i64 kind, .int .i64 (c : Int), .int .i64 (ca s.cells c).2, .int .i64 wrote, .bool done] (by rfl) (by rfl) (World.news_of_block (cs := #[.int .i64 s.step, .int .i64 s.thread, .int .i64 kind, .int .i64 (c : Int), .int .i64 (ca s.cells c).2, .int .i64 wrote, .bool done]) (t := 167) (fr := (0, 0)) (heap_alloc_new w3 _)) (by simp [Value.oneCell']) (by omega) h63 hlog (Nat.zero_le _) (w3.heap.size + 1) (by simp) ?_; intro gg cap1 w4 hown1 hgrow hat hlt1; have r1 := (hgrow.cell_far ⟨mb, 1, none⟩ (by simp; omega) (Ne.symm nl)).trans (ka _).1; have r2 := (hgrow.frozen_far ⟨mb, 1, none⟩ (by simp; omega) (Ne.symm nl)).trans (ka _).2))
  all_goals
    (try simp only [Exit.then])
    have KA : Keeps (fun _ => False) w3 (World.drew (w3.alloc (.cells #[.int .i64 s.step, .int .i64 s.thread, .int .i64 kind, .int .i64 (c : Int), .int .i64 (ca s.cells c).2, .int .i64 wrote, .bool done] 167))) := ((Keeps.refl _ w3).alloc _).drew
    obtain ⟨H5, K5⟩ := (HM.out.new KA).logged (r := s.row kind c wrote done) hgrow hown1 (hat.imp id (fun e => by rw [e]; simp))
    have lgg : Hid (vl.ownBlock = some gg ∨ w0.heap.size + 1 < gg) := hat.imp id (fun e => by have := sz3.out; omega)
    clear r0 r1 r2 r3 r4 r5 r6 f1 z1 q1 ka HO hown1 hgrow hat hlt1 h63 hz0 hz1 hz2 hi0 HM
    obtain ⟨w5, hw5⟩ : ∃ w5, w5 = w4.setCell ⟨mb, 1, none⟩ (.slice (some ⟨gg, 0, none⟩) (s.log.length + 1) cap1) := ⟨_, rfl⟩
    rw [← hw5] at H5 K5 ⊢
    clear hw5
    have s0 := sz0.out
    have nR : ¬ w0.heap.size = mb := by omega
    have nB : ¬ w.heap.size = mb := by omega
    have nR' : ¬ mb = w0.heap.size := by omega
    have nB' : ¬ mb = w.heap.size := by omega
    have nL : ∀ k, w.heap.size ≤ k → vl.ownBlock ≠ some k := fun k hk e => by have := owns_lt' hrl _ e; omega
    have R5 := (R3.keep KA (fun e => e)).keep K5 (fun e => e.elim (nL _ (by omega)) nR)
    have B5 := (((B0.keep K2 (fun e => e)).keep K3 (by omega)).keep KA (fun e => e)).keep K5 (fun e => e.elim (nL _ (Nat.le_refl _)) nB)
    have Z5 : ∀ o, w5.frozen? ⟨w.heap.size, o, none⟩ = false := fun o => by
      have l0 : w.heap.size < w0.heap.size := by omega
      rw [K5.frozen (p := ⟨w.heap.size, o, none⟩) (Nat.lt_of_lt_of_le l0 (Nat.le_trans K2.size (Nat.le_trans K3.size KA.size))) (fun e => e.elim (nL _ (Nat.le_refl _)) nB), KA.frozen (p := ⟨w.heap.size, o, none⟩) (Nat.lt_of_lt_of_le l0 (Nat.le_trans K2.size K3.size)) (fun e => e), K3.frozen (p := ⟨w.heap.size, o, none⟩) (Nat.lt_of_lt_of_le l0 K2.size) (by show ¬ w.heap.size = g; omega), K2.frozen (p := ⟨w.heap.size, o, none⟩) l0 (fun e => e)]
      exact Z0 o
    have H6 := H5.free false
    have K6 := keeps_set w5 mb 5 (.bool false)
    have KT : Keeps (fun k => k ∈ (mb :: ((Value.slice (some ⟨g, 0, none⟩) s.cells.length cap).ownBlock.toList ++ vl.ownBlock.toList))) w (w5.setCell ⟨mb, 5, none⟩ (.bool false)) := by
      have Ka := ((K0.trans K2).mono (T := fun k => k ∈ (mb :: ((Value.slice (some ⟨g, 0, none⟩) s.cells.length cap).ownBlock.toList ++ vl.ownBlock.toList))) (fun _ _ e => e.elim))
      have Kb := Ka.trans' (U := fun k => k ∈ (mb :: ((Value.slice (some ⟨g, 0, none⟩) s.cells.length cap).ownBlock.toList ++ vl.ownBlock.toList))) K3 (fun _ _ e => e) (fun _ _ e => by simp [e, Value.ownBlock])
      have Kc := Kb.trans' (U := fun k => k ∈ (mb :: ((Value.slice (some ⟨g, 0, none⟩) s.cells.length cap).ownBlock.toList ++ vl.ownBlock.toList))) KA (fun _ _ e => e) (fun _ _ e => e.elim)
      have Kd := Kc.trans' (U := fun k => k ∈ (mb :: ((Value.slice (some ⟨g, 0, none⟩) s.cells.length cap).ownBlock.toList ++ vl.ownBlock.toList))) K5 (fun _ _ e => e) (fun _ _ e => by rcases e with e | e <;> simp [e])
      exact Kd.trans' K6 (fun _ _ e => e) (fun _ _ e => by simp [e])
    have f5 := H5.f5
    have z5 := H5.z 5 (by omega)
    have r0 := R5.r0
    have r1 := R5.r1
    have r2 := R5.r2
    have r3 := R5.r3
    have r4 := R5.r4
    have r5 := R5.r5
    have r6 := R5.r6
    simp only [Mm.row, Nat.zero_add] at r0 r1 r2 r3 r4 r5 r6
    have b0 := B5.r0
    have b1 := B5.r1
    have b2 := B5.r2
    have b3 := B5.r3
    have b4 := B5.r4
    have b5 := B5.r5
    have b6 := B5.r6
    simp only [rw0, Nat.zero_add] at b0 b1 b2 b3 b4 b5 b6
    have H7 : Hid (MV (w5.setCell ⟨mb, 5, none⟩ (.bool false)) mb (.slice (some ⟨g, 0, none⟩) s.cells.length cap) (.slice (some ⟨gg, 0, none⟩) (s.log.length + 1) cap1) (s.take kind c wrote done)) := H6
    clear H6 H5 K5 K6 KA R3 R5 B5 H2 H K3 K2
    have hs0 : Hid (w0.heap.size = w.heap.size + 1) := s0
    clear s0
    go_wp2_with fail
    (try simp only [Exit.inBlock, Exit.then])
    refine bodyPost_ret (v := .tuple #[.agg #[.int .i64 s.step, .int .i64 s.thread, .int .i64 kind, .int .i64 (c : Int), .int .i64 (ca s.cells c).2, .int .i64 wrote, .bool done], .int .i64 0]) ?_ rfl ⟨rfl, ?_⟩
    · rw [results_cell_tmp rfl]
      go_simp
    · have hs1 := hs0.out
      have K7 := keeps_set7 (w5.setCell ⟨mb, 5, none⟩ (.bool false)) w.heap.size (.int .i64 s.step) (.int .i64 s.thread) (.int .i64 kind) (.int .i64 (c : Int)) (.int .i64 (ca s.cells c).2) (.int .i64 wrote) (.bool done)
      have t1 : ∀ k, (Value.slice (some ⟨g, 0, none⟩) s.cells.length cap).ownBlock = some k → ¬ k = w.heap.size := fun k e e' => by
        have e1 : g = k := by simpa [Value.ownBlock] using e
        omega
      have t2 : ∀ k, (Value.slice (some ⟨gg, 0, none⟩) (s.log.length + 1) cap1).ownBlock = some k → ¬ k = w.heap.size := fun k e e' => by
        have e1 : gg = k := by simpa [Value.ownBlock] using e
        rcases lgg.out with e2 | e2
        · exact nL _ (by omega) e2
        · omega
      refine ⟨_, ⟨_, _, H7.out.keep K7 (fun e => nB e.symm) t1 t2, rfl⟩, KT.trans' K7 (fun _ _ e => e) (fun k hk e => by omega), fun k hk => ?_⟩
      simp [Value.ownBlock] at hk ⊢
      rcases hk with e | e | e
      · exact .inl (.inl e)
      · exact .inl (.inr (.inl e))
      · rcases lgg.out with e1 | e1
        · exact .inl (.inr (.inr (by rw [e]; exact e1)))
        · exact .inr (by omega)
set_option maxHeartbeats 1600000 in
set_option maxRecDepth 1000000 in
theorem load_ok {w : World} {mb : Nat} {s : Mm} {F : List Nat} (h : MI w mb s F) {c : Nat} (hc : c < s.cells.length) (hfr : s.free = true) (hlog : (s.log.length + 1) * 56 ≤ 140737488355328) :
    Calls Tryz.prog 143 #[.pointer (some ⟨mb, 0, none⟩), .int .i64 (c : Int)] w fun e w' =>
      e = .returned (.tuple #[.int .i64 (ca s.cells c).2, .int .i64 0]) ∧ ∃ F', MI w' mb (s.take 1 c (ca s.cells c).2 true) F' ∧ Left w w' F F' := by
  have hac := access_load h hc hfr hlog 1 (ca s.cells c).2 true (fun W _ => loadw_any W _)
  go_enter Tryz.func143, Tryz.ntmps143
  go_wp2_with (go_at_call 100; refine hac.mono ?_; clear hac; rintro e w' ⟨rfl, F', h', l'⟩)
  go_ret2
  exact ⟨rfl, F', h'.new ((Keeps.refl _ _).alloc _), l'.trans (Left.new ((Keeps.refl _ _).alloc _))⟩
end Go.Proofs.YtgjndhbfjofkeaaGreatDoor

