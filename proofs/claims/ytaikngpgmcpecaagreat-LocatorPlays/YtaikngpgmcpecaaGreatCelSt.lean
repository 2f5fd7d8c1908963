import Derived.Test.YtaikngpgmcpecaaGreatKeepSt
namespace Go.Proofs.YtaikngpgmcpecaaGreat
open Go.RowKit

/-- Elements laid side by side, n cells each. -/
def fl {α : Type} (f : α → List Value) (xs : List α) : List Value := xs.flatMap f
section
variable {α : Type} {f : α → List Value} {n : Nat} (hf : ∀ x, (f x).length = n)
include hf
theorem fl_length : ∀ xs : List α, (fl f xs).length = xs.length * n
  | [] => by simp [fl]
  | x :: xs => by
    have := fl_length xs
    have e : fl f (x :: xs) = f x ++ fl f xs := rfl
    rw [e, List.length_append, hf, this, List.length_cons, Nat.succ_mul]; omega
theorem fl_get : ∀ (xs : List α) (i j : Nat), j < n → (fl f xs)[i * n + j]? = (xs[i]?).bind fun x => (f x)[j]?
  | [], i, j, _ => by simp [fl]
  | x :: xs, 0, j, hj => by
    have e : fl f (x :: xs) = f x ++ fl f xs := rfl
    rw [e, List.getElem?_append_left (by rw [hf]; omega)]; simp
  | x :: xs, i + 1, j, hj => by
    have e : fl f (x :: xs) = f x ++ fl f xs := rfl
    rw [e, List.getElem?_append_right (by rw [hf, Nat.succ_mul]; omega), hf, show (i + 1) * n + j - n = i * n + j by rw [Nat.succ_mul]; omega, fl_get xs i j hj]
    simp
theorem fl_set : ∀ (xs : List α) (i j : Nat) (x y : α) (u : Value), xs[i]? = some x → j < n → f y = (f x).set j u → fl f (xs.set i y) = (fl f xs).set (i * n + j) u
  | [], i, j, x, y, u, h, _, _ => by simp at h
  | z :: xs, 0, j, x, y, u, h, hj, e => by
    simp at h
    subst h
    show f y ++ fl f xs = (f z ++ fl f xs).set (0 * n + j) u
    rw [e, List.set_append_left _ _ (by rw [hf]; omega)]; simp
  | z :: xs, i + 1, j, x, y, u, h, hj, e => by
    show f z ++ fl f (xs.set i y) = (f z ++ fl f xs).set ((i + 1) * n + j) u
    rw [List.set_append_right _ _ (by rw [hf, Nat.succ_mul]; omega), hf, show (i + 1) * n + j - n = i * n + j by rw [Nat.succ_mul]; omega, fl_set xs i j x y u (by simpa using h) hj e]
end
theorem fl_append {α : Type} {f : α → List Value} (xs ys : List α) : fl f (xs ++ ys) = fl f xs ++ fl f ys := by simp [fl]

/-- A row of the log. -/
structure Rw where
  step : Int
  thread : Int
  kind : Int
  cell : Int
  seen : Int
  wrote : Int
  done : Bool
/-- A memory. -/
structure Mm where
  cells : List (Int × Int)
  log : List Rw
  step : Int
  thread : Int
  begun : Bool
  free : Bool

def rw0 : Rw := ⟨0, 0, 0, 0, 0, 0, false⟩
def rcells (r : Rw) : List Value := [.int .i64 r.step, .int .i64 r.thread, .int .i64 r.kind, .int .i64 r.cell, .int .i64 r.seen, .int .i64 r.wrote, .bool r.done]
def rv (r : Rw) : Value := .agg #[.int .i64 r.step, .int .i64 r.thread, .int .i64 r.kind, .int .i64 r.cell, .int .i64 r.seen, .int .i64 r.wrote, .bool r.done]
def ccells (c : Int × Int) : List Value := [.int .i64 c.1, .int .i64 c.2]
theorem rcells_len (r : Rw) : (rcells r).length = 7 := rfl
theorem ccells_len (r : Int × Int) : (ccells r).length = 2 := rfl
def ra (l : List Rw) (i : Nat) : Rw := l.getD i rw0
def ca (l : List (Int × Int)) (i : Nat) : Int × Int := l.getD i (0, 0)
theorem ra_get {l : List Rw} {i : Nat} (h : i < l.length) : l[i]? = some (ra l i) := by simp [ra, List.getD_eq_getElem?_getD, h]
theorem ca_get {l : List (Int × Int)} {i : Nat} (h : i < l.length) : l[i]? = some (ca l i) := by simp [ca, List.getD_eq_getElem?_getD, h]

def Mm.new : Mm := ⟨[], [], 0, 0, false, false⟩
def Mm.make (s : Mm) (x : Int) : Mm := { s with cells := s.cells ++ [(x, x)] }
def Mm.begin (s : Mm) (st th : Int) : Mm := { s with step := st, thread := th, begun := true, free := true }
def Mm.row (s : Mm) (kind : Int) (c : Nat) (wrote : Int) (done : Bool) : Rw := ⟨s.step, s.thread, kind, c, (ca s.cells c).2, wrote, done⟩
def Mm.take (s : Mm) (kind : Int) (c : Nat) (wrote : Int) (done : Bool) : Mm :=
  { s with cells := s.cells.set c ((ca s.cells c).1, wrote), log := s.log ++ [s.row kind c wrote done], free := false }

/-- A memory in memory: block mb is the struct; vc, vl its two lists. -/
structure MV (w : World) (mb : Nat) (vc vl : Value) (s : Mm) : Prop where
  f0 : w.cell? ⟨mb, 0, none⟩ = some vc
  f1 : w.cell? ⟨mb, 1, none⟩ = some vl
  f2 : w.cell? ⟨mb, 2, none⟩ = some (.int .i64 s.step)
  f3 : w.cell? ⟨mb, 3, none⟩ = some (.int .i64 s.thread)
  f4 : w.cell? ⟨mb, 4, none⟩ = some (.bool s.begun)
  f5 : w.cell? ⟨mb, 5, none⟩ = some (.bool s.free)
  z : ∀ o, o < 6 → w.frozen? ⟨mb, o, none⟩ = false
  rc : w.ownsRow 0 164 2 vc s.cells.length (fl ccells s.cells)
  rl : w.ownsRow 0 88 7 vl s.log.length (fl rcells s.log)
  nc : vc.ownBlock ≠ some mb
  nl : vl.ownBlock ≠ some mb
  nn : ∀ g, vc.ownBlock = some g → vl.ownBlock ≠ some g

section
variable {w w' : World} {mb : Nat} {vc vl : Value} {s : Mm}
theorem MV.lt (h : MV w mb vc vl s) : mb < w.heap.size := World.block_lt_of_cell? _ _ h.f0
theorem MV.keep (h : MV w mb vc vl s) {S : Nat → Prop} (k : Keeps S w w') (hm : ¬ S mb) (hc : ∀ g, vc.ownBlock = some g → ¬ S g) (hl : ∀ g, vl.ownBlock = some g → ¬ S g) : MV w' mb vc vl s :=
  ⟨k.cell h.f0 hm, k.cell h.f1 hm, k.cell h.f2 hm, k.cell h.f3 hm, k.cell h.f4 hm, k.cell h.f5 hm, fun o ho => (k.frozen (p := ⟨mb, o, none⟩) h.lt hm).trans (h.z o ho), k.owns h.rc hc, k.owns h.rl hl, h.nc, h.nl, h.nn⟩
theorem MV.new (h : MV w mb vc vl s) (k : Keeps (fun _ => False) w w') : MV w' mb vc vl s := h.keep k (fun e => e) (fun _ _ e => e) (fun _ _ e => e)
theorem MV.slice (h : MV w mb vc vl s) : ∃ a cap, vc = .slice a s.cells.length cap ∧ (0 < s.cells.length → ∃ g, a = some ⟨g, 0, none⟩ ∧ vc.ownBlock = some g) := by
  rcases h.rc.2 with ⟨rfl, h0⟩ | ⟨g, cap, cur, rfl, _⟩
  · exact ⟨none, 0, by rw [h0], fun e => by omega⟩
  · exact ⟨_, _, rfl, fun _ => ⟨g, rfl, rfl⟩⟩
theorem MV.lslice (h : MV w mb vc vl s) : ∃ a cap, vl = .slice a s.log.length cap ∧ (0 < s.log.length → ∃ g, a = some ⟨g, 0, none⟩ ∧ vl.ownBlock = some g) := by
  rcases h.rl.2 with ⟨rfl, h0⟩ | ⟨g, cap, cur, rfl, _⟩
  · exact ⟨none, 0, by rw [h0], fun e => by omega⟩
  · exact ⟨_, _, rfl, fun _ => ⟨g, rfl, rfl⟩⟩
theorem owns_cell {base e size n : Nat} {v : Value} {xs : List Value} (h : w.ownsRow base e size v n xs) {g : Nat} (hg : v.ownBlock = some g) {j : Nat} {u : Value} (hj : xs[j]? = some u) : w.cell? ⟨g, j, none⟩ = some u := by
  have := h.cells hg j u hj
  have e : (⟨g, 0, none⟩ : Addr).add j = ⟨g, j, none⟩ := by unfold Addr.add; split <;> simp_all
  rwa [e] at this
theorem MV.cell (h : MV w mb vc vl s) {g : Nat} (hg : vc.ownBlock = some g) {c : Nat} (hc : c < s.cells.length) : w.cell? ⟨g, c * 2, none⟩ = some (.int .i64 (ca s.cells c).1) ∧ w.cell? ⟨g, c * 2 + 1, none⟩ = some (.int .i64 (ca s.cells c).2) :=
  ⟨owns_cell h.rc hg (by have := fl_get ccells_len s.cells c 0 (by omega); rw [ca_get hc] at this; exact this), owns_cell h.rc hg (by have := fl_get ccells_len s.cells c 1 (by omega); rw [ca_get hc] at this; exact this)⟩
/-- The cells of a row. -/
structure RowAt (w : World) (g o : Nat) (r : Rw) : Prop where
  r0 : w.cell? ⟨g, o, none⟩ = some (.int .i64 r.step)
  r1 : w.cell? ⟨g, o + 1, none⟩ = some (.int .i64 r.thread)
  r2 : w.cell? ⟨g, o + 2, none⟩ = some (.int .i64 r.kind)
  r3 : w.cell? ⟨g, o + 3, none⟩ = some (.int .i64 r.cell)
  r4 : w.cell? ⟨g, o + 4, none⟩ = some (.int .i64 r.seen)
  r5 : w.cell? ⟨g, o + 5, none⟩ = some (.int .i64 r.wrote)
  r6 : w.cell? ⟨g, o + 6, none⟩ = some (.bool r.done)
theorem RowAt.keep {g o : Nat} {r : Rw} (h : RowAt w g o r) {S : Nat → Prop} (k : Keeps S w w') (hg : ¬ S g) : RowAt w' g o r :=
  ⟨k.cell h.r0 hg, k.cell h.r1 hg, k.cell h.r2 hg, k.cell h.r3 hg, k.cell h.r4 hg, k.cell h.r5 hg, k.cell h.r6 hg⟩
theorem owns_row {base e n : Nat} {v : Value} {l : List Rw} (h : w.ownsRow base e 7 v n (fl rcells l)) {g : Nat} (hg : v.ownBlock = some g) {i : Nat} (hi : i < l.length) : RowAt w g (i * 7) (ra l i) := by
  have q : ∀ j, j < 7 → (fl rcells l)[i * 7 + j]? = (rcells (ra l i))[j]? := fun j hj => by have := fl_get rcells_len l i j hj; rw [ra_get hi] at this; exact this
  exact ⟨owns_cell h hg (q 0 (by omega)), owns_cell h hg (q 1 (by omega)), owns_cell h hg (q 2 (by omega)), owns_cell h hg (q 3 (by omega)), owns_cell h hg (q 4 (by omega)), owns_cell h hg (q 5 (by omega)), owns_cell h hg (q 6 (by omega))⟩
theorem MV.row (h : MV w mb vc vl s) {g : Nat} (hg : vl.ownBlock = some g) {i : Nat} (hi : i < s.log.length) : RowAt w g (i * 7) (ra s.log i) := owns_row h.rl hg hi
end

/-- A memory; F: its blocks. -/
def MI (w : World) (mb : Nat) (s : Mm) (F : List Nat) : Prop := ∃ vc vl, MV w mb vc vl s ∧ F = mb :: (vc.ownBlock.toList ++ vl.ownBlock.toList)
section
variable {w w' : World} {mb : Nat} {s : Mm} {F : List Nat}
theorem MI.mem (h : MI w mb s F) : mb ∈ F := by obtain ⟨vc, vl, _, rfl⟩ := h; simp
theorem MI.lt (h : MI w mb s F) : ∀ k ∈ F, k < w.heap.size := by
  obtain ⟨vc, vl, h, rfl⟩ := h
  intro k hk
  simp at hk
  rcases hk with rfl | hk | hk
  · exact h.lt
  · exact owns_lt' h.rc k hk
  · exact owns_lt' h.rl k hk
theorem MI.keep (h : MI w mb s F) {S : Nat → Prop} (k : Keeps S w w') (hF : ∀ i ∈ F, ¬ S i) : MI w' mb s F := by
  obtain ⟨vc, vl, h, rfl⟩ := h
  exact ⟨vc, vl, h.keep k (hF _ (by simp)) (fun g e => hF _ (by simp [e])) (fun g e => hF _ (by simp [e])), rfl⟩
theorem MI.new (h : MI w mb s F) (k : Keeps (fun _ => False) w w') : MI w' mb s F := h.keep k (fun _ _ e => e)
end
end Go.Proofs.YtaikngpgmcpecaaGreat
