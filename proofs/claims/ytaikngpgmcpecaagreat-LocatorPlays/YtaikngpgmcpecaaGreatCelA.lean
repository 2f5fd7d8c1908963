import Derived.Test.YtaikngpgmcpecaaGreatCelSt
namespace Go.Proofs.YtaikngpgmcpecaaGreat
open Go.RowKit

section
variable {w w' w1 : World} {mb g cap : Nat} {vc vl : Value} {s : Mm}

theorem keeps_set (w : World) (b o : Nat) (v : Value) : Keeps (fun k => k = b) w (w.setCell ⟨b, o, none⟩ v) := Keeps.setCell (S := fun k => k = b) (p := ⟨b, o, none⟩) (Keeps.refl _ w) (fun _ => rfl) _

/-- One more cell, and the list written down. -/
theorem MV.make (h : MV w mb vc vl s) {x : Int} (hg : w.grownBy w1 vc.ownBlock)
    (ho : w1.ownsRow 0 164 2 (.slice (some ⟨g, 0, none⟩) (s.cells.length + 1) cap) (s.cells.length + 1) (fl ccells s.cells ++ [.int .i64 x, .int .i64 x])) (hat : vc.ownBlock = some g ∨ g = w.heap.size) :
    MV (w1.setCell ⟨mb, 0, none⟩ (.slice (some ⟨g, 0, none⟩) (s.cells.length + 1) cap)) mb (.slice (some ⟨g, 0, none⟩) (s.cells.length + 1) cap) vl (s.make x) ∧
      Keeps (fun k => vc.ownBlock = some k ∨ k = mb) w (w1.setCell ⟨mb, 0, none⟩ (.slice (some ⟨g, 0, none⟩) (s.cells.length + 1) cap)) := by
  have K1 : Keeps (fun k => vc.ownBlock = some k) w w1 := (Keeps.refl _ w).grown hg (fun _ _ e => e)
  have K2 := keeps_set w1 mb 0 (.slice (some ⟨g, 0, none⟩) (s.cells.length + 1) cap)
  have hl := h.lt
  have gm : g ≠ mb := by
    rcases hat with e | e
    · exact fun e' => h.nc (e' ▸ e)
    · omega
  have o : ∀ k v, k ≠ 0 → w.cell? ⟨mb, k, none⟩ = some v → (w1.setCell ⟨mb, 0, none⟩ (.slice (some ⟨g, 0, none⟩) (s.cells.length + 1) cap)).cell? ⟨mb, k, none⟩ = some v := fun k v hk hv => by
    rw [World.cell?_setCell_other _ _ _ _ (fun e => by cases e; exact hk rfl)]; exact K1.cell hv h.nc
  have rl1 := K1.owns h.rl (fun k e e' => h.nn k e' e)
  refine ⟨⟨World.cell?_setCell_same _ _ _ (K1.cell h.f0 h.nc), o _ _ (by decide) h.f1, o _ _ (by decide) h.f2, o _ _ (by decide) h.f3, o _ _ (by decide) h.f4, o _ _ (by decide) h.f5, fun k hk => ?_, ?_, K2.owns rl1 (fun k e e' => h.nl (e' ▸ e)), ?_, h.nl, ?_⟩, K1.trans' K2 (fun _ _ e => .inl e) (fun _ _ e => .inr e)⟩
  · rw [World.frozen?_setCell]; exact (K1.frozen (p := ⟨mb, k, none⟩) hl h.nc).trans (h.z k hk)
  · have e : (s.make x).cells.length = s.cells.length + 1 := by simp [Mm.make]
    have e' : fl ccells (s.make x).cells = fl ccells s.cells ++ [.int .i64 x, .int .i64 x] := by simp only [Mm.make, fl_append]; rfl
    rw [e, e']
    exact K2.owns ho (fun k e => by cases e; exact gm)
  · intro e; cases e; exact gm rfl
  · intro k e e'
    cases e
    rcases hat with e2 | e2
    · exact h.nn _ e2 e'
    · have h9 : g < w.heap.size := owns_lt' h.rl _ e'
      omega

/-- One more row, and the list written down. -/
theorem MV.logged (h : MV w mb vc vl s) {r : Rw} (hg : w.grownBy w1 vl.ownBlock)
    (ho : w1.ownsRow 0 88 7 (.slice (some ⟨g, 0, none⟩) (s.log.length + 1) cap) (s.log.length + 1) (fl rcells s.log ++ rcells r)) (hat : vl.ownBlock = some g ∨ g = w.heap.size) :
    MV (w1.setCell ⟨mb, 1, none⟩ (.slice (some ⟨g, 0, none⟩) (s.log.length + 1) cap)) mb vc (.slice (some ⟨g, 0, none⟩) (s.log.length + 1) cap) { s with log := s.log ++ [r] } ∧
      Keeps (fun k => vl.ownBlock = some k ∨ k = mb) w (w1.setCell ⟨mb, 1, none⟩ (.slice (some ⟨g, 0, none⟩) (s.log.length + 1) cap)) := by
  have K1 : Keeps (fun k => vl.ownBlock = some k) w w1 := (Keeps.refl _ w).grown hg (fun _ _ e => e)
  have K2 := keeps_set w1 mb 1 (.slice (some ⟨g, 0, none⟩) (s.log.length + 1) cap)
  have hl := h.lt
  have gm : g ≠ mb := by
    rcases hat with e | e
    · exact fun e' => h.nl (e' ▸ e)
    · omega
  have o : ∀ k v, k ≠ 1 → w.cell? ⟨mb, k, none⟩ = some v → (w1.setCell ⟨mb, 1, none⟩ (.slice (some ⟨g, 0, none⟩) (s.log.length + 1) cap)).cell? ⟨mb, k, none⟩ = some v := fun k v hk hv => by
    rw [World.cell?_setCell_other _ _ _ _ (fun e => by cases e; exact hk rfl)]; exact K1.cell hv h.nl
  have rc1 := K1.owns h.rc (fun k e e' => h.nn k e e')
  refine ⟨⟨o _ _ (by decide) h.f0, World.cell?_setCell_same _ _ _ (K1.cell h.f1 h.nl), o _ _ (by decide) h.f2, o _ _ (by decide) h.f3, o _ _ (by decide) h.f4, o _ _ (by decide) h.f5, fun k hk => ?_, K2.owns rc1 (fun k e e' => h.nc (e' ▸ e)), ?_, h.nc, ?_, ?_⟩, K1.trans' K2 (fun _ _ e => .inl e) (fun _ _ e => .inr e)⟩
  · rw [World.frozen?_setCell]; exact (K1.frozen (p := ⟨mb, k, none⟩) hl h.nl).trans (h.z k hk)
  · have e : (s.log ++ [r]).length = s.log.length + 1 := by simp
    have e' : fl rcells (s.log ++ [r]) = fl rcells s.log ++ rcells r := by simp only [fl_append]; rfl
    show World.ownsRow _ _ _ _ _ (s.log ++ [r]).length (fl rcells (s.log ++ [r]))
    rw [e, e']
    exact K2.owns ho (fun k e => by cases e; exact gm)
  · intro e; cases e; exact gm rfl
  · intro k e e'
    cases e'
    rcases hat with e2 | e2
    · exact h.nn _ e e2
    · have h9 : g < w.heap.size := owns_lt' h.rc _ e
      omega

/-- A cell's word written. -/
theorem MV.set (h : MV w mb vc vl s) {g c : Nat} (hg : vc.ownBlock = some g) (hc : c < s.cells.length) (u : Int) :
    MV (w.setCell ⟨g, c * 2 + 1, none⟩ (.int .i64 u)) mb vc vl { s with cells := s.cells.set c ((ca s.cells c).1, u) } ∧ Keeps (fun k => k = g) w (w.setCell ⟨g, c * 2 + 1, none⟩ (.int .i64 u)) := by
  have K := keeps_set w g (c * 2 + 1) (.int .i64 u)
  have gm : ¬ mb = g := fun e => h.nc (e ▸ hg)
  refine ⟨⟨K.cell h.f0 gm, K.cell h.f1 gm, K.cell h.f2 gm, K.cell h.f3 gm, K.cell h.f4 gm, K.cell h.f5 gm, fun k hk => (K.frozen (p := ⟨mb, k, none⟩) h.lt gm).trans (h.z k hk), ?_, K.owns h.rl (fun k e e' => h.nn g hg (e' ▸ e)), h.nc, h.nl, h.nn⟩, K⟩
  have hr := h.rc
  obtain ⟨a, cp, rfl, hs⟩ := h.slice
  obtain ⟨g', e1, e2⟩ := hs (by omega)
  rw [hg] at e2
  cases e2
  subst e1
  obtain ⟨r1, _⟩ := hr.stored (c * 2 + 1) (.int .i64 u)
  have e : fl ccells (s.cells.set c ((ca s.cells c).1, u)) = (fl ccells s.cells).set (c * 2 + 1) (.int .i64 u) := fl_set ccells_len s.cells c 1 _ _ _ (ca_get hc) (by omega) rfl
  show World.ownsRow _ _ _ _ _ (s.cells.set c ((ca s.cells c).1, u)).length (fl ccells (s.cells.set c ((ca s.cells c).1, u)))
  rw [List.length_set, e]
  exact r1

theorem MV.free (h : MV w mb vc vl s) (b : Bool) : MV (w.setCell ⟨mb, 5, none⟩ (.bool b)) mb vc vl { s with free := b } := by
  have K := keeps_set w mb 5 (.bool b)
  have o : ∀ k v, k ≠ 5 → w.cell? ⟨mb, k, none⟩ = some v → (w.setCell ⟨mb, 5, none⟩ (.bool b)).cell? ⟨mb, k, none⟩ = some v := fun k v hk hv => by
    rw [World.cell?_setCell_other _ _ _ _ (fun e => by cases e; exact hk rfl)]; exact hv
  exact ⟨o _ _ (by decide) h.f0, o _ _ (by decide) h.f1, o _ _ (by decide) h.f2, o _ _ (by decide) h.f3, o _ _ (by decide) h.f4, World.cell?_setCell_same _ _ _ h.f5, fun k hk => by rw [World.frozen?_setCell]; exact h.z k hk, K.owns h.rc (fun k e e' => h.nc (e' ▸ e)), K.owns h.rl (fun k e e' => h.nl (e' ▸ e)), h.nc, h.nl, h.nn⟩
theorem MV.begun (h : MV w mb vc vl s) (b : Bool) : MV (w.setCell ⟨mb, 4, none⟩ (.bool b)) mb vc vl { s with begun := b } := by
  have K := keeps_set w mb 4 (.bool b)
  have o : ∀ k v, k ≠ 4 → w.cell? ⟨mb, k, none⟩ = some v → (w.setCell ⟨mb, 4, none⟩ (.bool b)).cell? ⟨mb, k, none⟩ = some v := fun k v hk hv => by
    rw [World.cell?_setCell_other _ _ _ _ (fun e => by cases e; exact hk rfl)]; exact hv
  exact ⟨o _ _ (by decide) h.f0, o _ _ (by decide) h.f1, o _ _ (by decide) h.f2, o _ _ (by decide) h.f3, World.cell?_setCell_same _ _ _ h.f4, o _ _ (by decide) h.f5, fun k hk => by rw [World.frozen?_setCell]; exact h.z k hk, K.owns h.rc (fun k e e' => h.nc (e' ▸ e)), K.owns h.rl (fun k e e' => h.nl (e' ▸ e)), h.nc, h.nl, h.nn⟩
theorem MV.thread (h : MV w mb vc vl s) (b : Int) : MV (w.setCell ⟨mb, 3, none⟩ (.int .i64 b)) mb vc vl { s with thread := b } := by
  have K := keeps_set w mb 3 (.int .i64 b)
  have o : ∀ k v, k ≠ 3 → w.cell? ⟨mb, k, none⟩ = some v → (w.setCell ⟨mb, 3, none⟩ (.int .i64 b)).cell? ⟨mb, k, none⟩ = some v := fun k v hk hv => by
    rw [World.cell?_setCell_other _ _ _ _ (fun e => by cases e; exact hk rfl)]; exact hv
  exact ⟨o _ _ (by decide) h.f0, o _ _ (by decide) h.f1, o _ _ (by decide) h.f2, World.cell?_setCell_same _ _ _ h.f3, o _ _ (by decide) h.f4, o _ _ (by decide) h.f5, fun k hk => by rw [World.frozen?_setCell]; exact h.z k hk, K.owns h.rc (fun k e e' => h.nc (e' ▸ e)), K.owns h.rl (fun k e e' => h.nl (e' ▸ e)), h.nc, h.nl, h.nn⟩
theorem MV.stepped (h : MV w mb vc vl s) (b : Int) : MV (w.setCell ⟨mb, 2, none⟩ (.int .i64 b)) mb vc vl { s with step := b } := by
  have K := keeps_set w mb 2 (.int .i64 b)
  have o : ∀ k v, k ≠ 2 → w.cell? ⟨mb, k, none⟩ = some v → (w.setCell ⟨mb, 2, none⟩ (.int .i64 b)).cell? ⟨mb, k, none⟩ = some v := fun k v hk hv => by
    rw [World.cell?_setCell_other _ _ _ _ (fun e => by cases e; exact hk rfl)]; exact hv
  exact ⟨o _ _ (by decide) h.f0, o _ _ (by decide) h.f1, World.cell?_setCell_same _ _ _ h.f2, o _ _ (by decide) h.f3, o _ _ (by decide) h.f4, o _ _ (by decide) h.f5, fun k hk => by rw [World.frozen?_setCell]; exact h.z k hk, K.owns h.rc (fun k e e' => h.nc (e' ▸ e)), K.owns h.rl (fun k e e' => h.nl (e' ▸ e)), h.nc, h.nl, h.nn⟩
theorem MV.begin (h : MV w mb vc vl s) (st th : Int) :
    MV ((((w.setCell ⟨mb, 2, none⟩ (.int .i64 st)).setCell ⟨mb, 3, none⟩ (.int .i64 th)).setCell ⟨mb, 4, none⟩ (.bool true)).setCell ⟨mb, 5, none⟩ (.bool true)) mb vc vl (s.begin st th) ∧
      Keeps (fun k => k = mb) w ((((w.setCell ⟨mb, 2, none⟩ (.int .i64 st)).setCell ⟨mb, 3, none⟩ (.int .i64 th)).setCell ⟨mb, 4, none⟩ (.bool true)).setCell ⟨mb, 5, none⟩ (.bool true)) :=
  ⟨(((h.stepped st).thread th).begun true).free true, (((keeps_set _ _ _ _).trans (keeps_set _ _ _ _)).trans (keeps_set _ _ _ _)).trans (keeps_set _ _ _ _)⟩
end

theorem wordInfo : (Tryz.prog.info? 164).map (fun i => (i.zero, i.size, i.bytes)) = some (some (.agg #[.int .i64 0, .int .i64 0]), 2, 16) := by kernel_rfl
theorem underWords : Tryz.prog.underlying 94 = some (.slice 164) := by kernel_rfl
theorem rowInfo : (Tryz.prog.info? 88).map (fun i => (i.zero, i.size, i.bytes)) = some (some (rv rw0), 7, 56) := by kernel_rfl
theorem underRows : Tryz.prog.underlying 40 = some (.slice 88) := by kernel_rfl

set_option maxHeartbeats 800000 in
set_option maxRecDepth 1000000 in
/-- A memory without cells. -/
theorem new_any (w : World) : Calls Tryz.prog 13 #[] w fun e w' => e = .returned (.pointer (some ⟨w.heap.size, 0, none⟩)) ∧ MI w' w.heap.size Mm.new [w.heap.size] ∧ Keeps (fun _ => False) w w' := by
  go_enter Tryz.func13, Tryz.ntmps13
  go_wp2
  go_ret
  refine ⟨rfl, ⟨.slice none 0 0, .slice none 0 0, ⟨by simp, by simp, by simp [Mm.new], by simp [Mm.new], by simp [Mm.new], by simp [Mm.new], fun o _ => by simp, World.ownsRow_nil _ _ _ _, World.ownsRow_nil _ _ _ _, by simp [Value.ownBlock], by simp [Value.ownBlock], by simp [Value.ownBlock]⟩, rfl⟩, (Keeps.refl _ w).alloc _⟩

set_option maxHeartbeats 800000 in
set_option maxRecDepth 1000000 in
theorem size_any {w : World} {mb : Nat} {s : Mm} {F : List Nat} (h : MI w mb s F) : Calls Tryz.prog 11 #[.pointer (some ⟨mb, 0, none⟩)] w fun e w' => e = .returned (.int .i64 s.cells.length) ∧ w' = w := by
  obtain ⟨vc, vl, h, rfl⟩ := h
  obtain ⟨a, cap, rfl, _⟩ := h.slice
  have f0 := h.f0
  go_enter Tryz.func11, Tryz.ntmps11
  go_wp2
  go_ret
  exact ⟨rfl, rfl⟩

/-- Whether there is a cell of that number. -/
def Mm.there (s : Mm) (c : Int) : Bool := decide (0 ≤ c) && decide (c < (s.cells.length : Int))

set_option maxHeartbeats 800000 in
set_option maxRecDepth 1000000 in
theorem has_any {w : World} {mb : Nat} {s : Mm} {F : List Nat} (h : MI w mb s F) (c : Int) : Calls Tryz.prog 103 #[.pointer (some ⟨mb, 0, none⟩), .int .i64 c] w fun e w' => e = .returned (.bool (s.there c)) ∧ w' = w := by
  by_cases h0 : 0 ≤ c
  · have h0' : decide (0 ≤ c) = true := by simp [h0]
    have e : s.there c = decide (c < (s.cells.length : Int)) := by simp [Mm.there, h0]
    rw [e]
    have hs := size_any h
    go_enter Tryz.func103, Tryz.ntmps103
    go_wp2_with (go_at_call 11; refine hs.mono ?_; rintro e w' ⟨rfl, rfl⟩)
    go_ret
    exact ⟨rfl, rfl⟩
  · have h0' : decide (0 ≤ c) = false := by simp [h0]
    have e : s.there c = false := by simp [Mm.there]; omega
    rw [e]
    go_enter Tryz.func103, Tryz.ntmps103
    go_wp2_with fail
    go_ret
    exact ⟨rfl, rfl⟩

theorem peq (mb : Nat) : ∀ w : World, (binOp .eql 28 (.pointer (some ⟨mb, 0, none⟩)) (.pointer none)).run Tryz.prog w = .ok (.bool false) w := fun w => by kernel_rfl

set_option maxHeartbeats 1600000 in
set_option maxRecDepth 1000000 in
/-- Make, where there is room. -/
theorem make_any {w : World} {mb : Nat} {s : Mm} {F : List Nat} (h : MI w mb s F) (x : Int) (hl : s.cells.length < 65536) :
    Calls Tryz.prog 71 #[.pointer (some ⟨mb, 0, none⟩), .int .i64 x] w fun e w' => e = .returned (.tuple #[.int .i64 s.cells.length, .int .i64 0]) ∧ ∃ F', MI w' mb (s.make x) F' ∧ Left w w' F F' := by
  obtain ⟨vc, vl, h, rfl⟩ := h
  have hp := peq mb
  obtain ⟨a, cap, hva, _⟩ := h.slice
  have f0 := h.f0
  have z0 := h.z 0 (by omega)
  have hlI : (s.cells.length : Int) < 65536 := by omega
  have lm := h.lt
  have H : Hid (MV w mb vc vl s) := h
  have HO : Hid (w.ownsRow 0 164 2 vc s.cells.length (fl ccells s.cells)) := h.rc
  have nc := h.nc
  obtain ⟨i0, hi0, hz0, hz1, hz2⟩ := info_parts wordInfo
  have h63 : s.cells.length + 1 ≤ maxLen := by unfold maxLen; omega
  have hb : (s.cells.length + 1) * 16 ≤ 140737488355328 := by omega
  subst hva
  clear h
  go_enter Tryz.func71, Tryz.ntmps71
  go_wp2_with ((at_builtin; refine wpList_append_lies _ rfl _ _ _ rfl 0 164 i0 _ 2 16 underWords hi0 hz0 hz1 hz2 rfl (by decide) (.slice a s.cells.length cap) s.cells.length (fl ccells s.cells) rfl (HO.out.alloc _) ⟨w.heap.size, 0, none⟩ 1 1 [.int .i64 x, .int .i64 x] rfl rfl (World.news_of_block (cs := #[.int .i64 x, .int .i64 x]) (t := 164) (fr := (0, 0)) (heap_alloc_new w _)) (by simp [Value.oneCell']) (by omega) h63 hb (by simp) _ rfl ?_))
  intro gg cap1 w1 hown1 hgrow hat hlt1
  have KA : Keeps (fun _ => False) w (w.alloc (.cells #[.int .i64 x, .int .i64 x] 164)) := (Keeps.refl _ w).alloc _
  have hA := H.out.new KA
  obtain ⟨h1, k1⟩ := hA.make hgrow hown1 (hat.imp id (fun e => by rw [e]; simp))
  have r1 : w1.cell? ⟨mb, 0, none⟩ = some (.slice a s.cells.length cap) := hgrow.cell (KA.cell f0 (fun e => e)) (Ne.symm nc)
  have r2 : w1.frozen? ⟨mb, 0, none⟩ = false := (hgrow.frozen_far ⟨mb, 0, none⟩ (by simp; omega) (Ne.symm nc)).trans ((KA.frozen (p := ⟨mb, 0, none⟩) lm (fun e => e)).trans z0)
  clear f0 z0
  go_wp2_with fail
  go_ret2
  refine ⟨by go_num, _, ⟨_, _, h1, rfl⟩, ?_, ?_⟩
  · refine (KA.mono (fun _ _ e => e.elim)).trans' k1 (fun _ _ e => e) (fun i _ e => ?_)
    rcases e with e | e
    · simp [e]
    · simp [e]
  · intro k hk
    simp only [List.mem_cons, List.mem_append, Option.mem_toList] at hk ⊢
    rcases hk with e | e | e
    · exact .inl (.inl e)
    · cases e
      rcases hat with e | e
      · exact .inl (.inr (.inl e))
      · exact .inr (by rw [e]; simp)
    · exact .inl (.inr (.inr e))

set_option maxHeartbeats 1600000 in
set_option maxRecDepth 1000000 in
/-- Make, where there is none. -/
theorem make_full {w : World} {mb : Nat} {s : Mm} {F : List Nat} (h : MI w mb s F) (x : Int) (hl : 65536 ≤ s.cells.length) :
    Calls Tryz.prog 71 #[.pointer (some ⟨mb, 0, none⟩), .int .i64 x] w fun e w' => e = .returned (.tuple #[.int .i64 0, .int .i64 33]) ∧ w' = w := by
  obtain ⟨vc, vl, h, rfl⟩ := h
  have hp := peq mb
  obtain ⟨a, cap, rfl, _⟩ := h.slice
  have f0 := h.f0
  have hlI : ¬ (s.cells.length : Int) < 65536 := by omega
  have hlI' : (65536 : Int) ≤ (s.cells.length : Int) := by omega
  go_enter Tryz.func71, Tryz.ntmps71
  go_wp2_with fail
  go_ret2
  exact ⟨rfl, rfl⟩

/-- Whether a step may begin. -/
def Mm.may (s : Mm) (st th : Int) : Bool := decide (0 ≤ st) && decide (0 ≤ th) && !(s.begun && decide (st ≤ s.step))

set_option maxHeartbeats 1600000 in
set_option maxRecDepth 1000000 in
theorem begin_ok {w : World} {mb : Nat} {s : Mm} {F : List Nat} (h : MI w mb s F) (st th : Int) (hm : s.may st th = true) :
    Calls Tryz.prog 19 #[.pointer (some ⟨mb, 0, none⟩), .int .i64 st, .int .i64 th] w fun e w' => e = .returned (.int .i64 0) ∧ MI w' mb (s.begin st th) F ∧ Left w w' F F := by
  obtain ⟨vc, vl, h, rfl⟩ := h
  have hp := peq mb
  have c2 := h.f2
  have c3 := h.f3
  have c4 := h.f4
  have c5 := h.f5
  have z2 := h.z 2 (by omega)
  have z3 := h.z 3 (by omega)
  have z4 := h.z 4 (by omega)
  have z5 := h.z 5 (by omega)
  obtain ⟨h1, k1⟩ := h.begin st th
  have fin : MI ((((w.setCell ⟨mb, 2, none⟩ (.int .i64 st)).setCell ⟨mb, 3, none⟩ (.int .i64 th)).setCell ⟨mb, 4, none⟩ (.bool true)).setCell ⟨mb, 5, none⟩ (.bool true)) mb (s.begin st th) (mb :: (vc.ownBlock.toList ++ vl.ownBlock.toList)) ∧ Left w ((((w.setCell ⟨mb, 2, none⟩ (.int .i64 st)).setCell ⟨mb, 3, none⟩ (.int .i64 th)).setCell ⟨mb, 4, none⟩ (.bool true)).setCell ⟨mb, 5, none⟩ (.bool true)) (mb :: (vc.ownBlock.toList ++ vl.ownBlock.toList)) (mb :: (vc.ownBlock.toList ++ vl.ownBlock.toList)) :=
    ⟨⟨vc, vl, h1, rfl⟩, k1.mono (fun _ _ e => by simp [e]), fun _ e => .inl e⟩
  have FI : Hid (_ ∧ _) := fin
  clear fin h1 k1 h
  simp only [Mm.may, Bool.and_eq_true, decide_eq_true_eq] at hm
  obtain ⟨⟨m1, m2⟩, m3⟩ := hm
  have b1 : decide (st < 0) = false := by simp; omega
  have b2 : decide (th < 0) = false := by simp; omega
  clear m1 m2
  cases hb : s.begun with
  | false =>
    rw [hb] at c4
    go_enter Tryz.func19, Tryz.ntmps19
    go_wp2_with fail
    go_ret
    exact ⟨rfl, FI.out⟩
  | true =>
    rw [hb] at c4 m3
    have b3 : decide (st ≤ s.step) = false := by simpa using m3
    clear m3
    go_enter Tryz.func19, Tryz.ntmps19
    go_wp2_with fail
    go_ret
    exact ⟨rfl, FI.out⟩

set_option maxHeartbeats 1600000 in
set_option maxRecDepth 1000000 in
theorem begin_not {w : World} {mb : Nat} {s : Mm} {F : List Nat} (h : MI w mb s F) (st th : Int) (hm : s.may st th = false) :
    Calls Tryz.prog 19 #[.pointer (some ⟨mb, 0, none⟩), .int .i64 st, .int .i64 th] w fun e w' => e = .returned (.int .i64 32) ∧ w' = w := by
  obtain ⟨vc, vl, h, rfl⟩ := h
  have hp := peq mb
  have c2 := h.f2
  have c4 := h.f4
  clear h
  by_cases m1 : 0 ≤ st
  · have b1 : decide (st < 0) = false := by simp; omega
    by_cases m2 : 0 ≤ th
    · have b2 : decide (th < 0) = false := by simp; omega
      simp only [Mm.may, m1, m2, decide_true, Bool.true_and, Bool.not_eq_false', Bool.and_eq_true, decide_eq_true_eq] at hm
      obtain ⟨e, m3⟩ := hm
      rw [e] at c4
      have b3 : decide (st ≤ s.step) = true := by simp [m3]
      clear m1 m2 m3
      go_enter Tryz.func19, Tryz.ntmps19
      go_wp2_with fail
      go_ret
      exact ⟨rfl, rfl⟩
    · have b2 : decide (th < 0) = true := by simp; omega
      clear m1 m2 hm
      go_enter Tryz.func19, Tryz.ntmps19
      go_wp2_with fail
      go_ret
      exact ⟨rfl, rfl⟩
  · have b1 : decide (st < 0) = true := by simp; omega
    clear m1 hm
    go_enter Tryz.func19, Tryz.ntmps19
    go_wp2_with fail
    go_ret
    exact ⟨rfl, rfl⟩

theorem there_ok {s : Mm} {c : Nat} (h : c < s.cells.length) : s.there c = true := by simp [Mm.there, h]
theorem there_nat {s : Mm} {c : Int} (h : s.there c = true) : ∃ n : Nat, c = n ∧ n < s.cells.length := by
  simp [Mm.there] at h
  exact ⟨c.toNat, by omega, by omega⟩

set_option maxHeartbeats 1600000 in
set_option maxRecDepth 1000000 in
theorem peek_any {w : World} {mb : Nat} {s : Mm} {F : List Nat} (h : MI w mb s F) {c : Nat} (hc : c < s.cells.length) :
    Calls Tryz.prog 90 #[.pointer (some ⟨mb, 0, none⟩), .int .i64 (c : Int)] w fun e w' => e = .returned (.tuple #[.int .i64 (ca s.cells c).2, .int .i64 0]) ∧ w' = w := by
  have hh := has_any h (c : Int)
  rw [there_ok hc] at hh
  obtain ⟨vc, vl, h, rfl⟩ := h
  obtain ⟨a, cap, rfl, hs⟩ := h.slice
  obtain ⟨g, rfl, hg⟩ := hs (by omega)
  have f0 := h.f0
  have c1 := (h.cell hg hc).2
  have hcI : (c : Int) < (s.cells.length : Int) := by omega
  clear h hs hg
  go_enter Tryz.func90, Tryz.ntmps90
  go_wp2_with (go_at_call 103; refine hh.mono ?_; rintro e w' ⟨rfl, rfl⟩)
  go_ret2
  exact ⟨rfl, rfl⟩
set_option maxHeartbeats 1600000 in
set_option maxRecDepth 1000000 in
theorem peek_not {w : World} {mb : Nat} {s : Mm} {F : List Nat} (h : MI w mb s F) {c : Int} (hc : s.there c = false) :
    Calls Tryz.prog 90 #[.pointer (some ⟨mb, 0, none⟩), .int .i64 c] w fun e w' => e = .returned (.tuple #[.int .i64 0, .int .i64 30]) ∧ w' = w := by
  have hh := has_any h c
  rw [hc] at hh
  clear h
  go_enter Tryz.func90, Tryz.ntmps90
  go_wp2_with (go_at_call 103; refine hh.mono ?_; rintro e w' ⟨rfl, rfl⟩)
  go_ret2
  exact ⟨rfl, rfl⟩

end Go.Proofs.YtaikngpgmcpecaaGreat
