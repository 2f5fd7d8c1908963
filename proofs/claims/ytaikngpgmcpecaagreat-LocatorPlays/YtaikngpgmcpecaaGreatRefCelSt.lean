import Derived.Test.YtaikngpgmcpecaaGreatLocM
namespace Go.Proofs.YtaikngpgmcpecaaGreat
open Go.RowKit

/-- The rows of a cell: their numbers. -/
def ix (L : List Rw) (c : Nat) : List Nat := (List.range L.length).filter fun j => decide ((ra L j).cell = (c : Int))
theorem ra_left' {l : List Rw} {r : Rw} {j : Nat} (h : j < l.length) : ra (l ++ [r]) j = ra l j := by simp only [ra, List.getD_eq_getElem?_getD]; rw [List.getElem?_append_left h]
theorem ra_last' {l : List Rw} {r : Rw} : ra (l ++ [r]) l.length = r := by simp [ra]
theorem ix_snoc (L : List Rw) (r : Rw) (c : Nat) : ix (L ++ [r]) c = ix L c ++ (if r.cell = (c : Int) then [L.length] else []) := by
  unfold ix
  rw [List.length_append, List.length_cons, List.length_nil, List.range_succ, List.filter_append]
  congr 1
  · refine List.filter_congr (fun j hj => ?_)
    rw [ra_left' (by simpa using hj)]
  · by_cases h : r.cell = (c : Int)
    · rw [if_pos h, List.filter_cons_of_pos (by rw [ra_last']; simp [h])]; rfl
    · rw [if_neg h, List.filter_cons_of_neg (by rw [ra_last']; simp [h])]; rfl
theorem ix_le (L : List Rw) (c : Nat) : (ix L c).length ≤ L.length := by
  have := List.length_filter_le (fun j => decide ((ra L j).cell = (c : Int))) (List.range L.length)
  simpa [ix] using this
theorem ix_mem {L : List Rw} {c j : Nat} (h : j ∈ ix L c) : j < L.length ∧ (ra L j).cell = (c : Int) := by simpa [ix] using h
def ixa (l : List Nat) (i : Nat) : Nat := l.getD i 0
def icells (l : List Nat) : List Value := l.map fun (j : Nat) => .int .i64 (j : Int)
theorem icells_len (l : List Nat) : (icells l).length = l.length := by simp [icells]
theorem icells_get {l : List Nat} {i : Nat} (h : i < l.length) : (icells l)[i]? = some (.int .i64 (ixa l i : Int)) := by simp [icells, ixa, List.getD_eq_getElem?_getD, h]
def fcells (l : List (Int × Int)) : List Value := l.map fun p => .int .i64 p.1
theorem fcells_get {l : List (Int × Int)} {i : Nat} (h : i < l.length) : (fcells l)[i]? = some (.int .i64 (ca l i).1) := by simp [fcells, ca, List.getD_eq_getElem?_getD, h]
def va (l : List Value) (i : Nat) : Value := l.getD i (.slice none 0 0)
theorem va_get {l : List Value} {i : Nat} (h : i < l.length) : l[i]? = some (va l i) := by simp [va, List.getD_eq_getElem?_getD, h]

/-- The document's memory in memory: block rb is the struct; vf, vr, vg its lists; rvs the lists of numbers; ρ tells its blocks apart. -/
structure RV (w : World) (rb : Nat) (vf vr vg : Value) (cs : List (Int × Int)) (rvs : List Value) (js : Nat → List Nat) (ρ : Nat → Nat) (s : Mm) : Prop where
  f0 : w.cell? ⟨rb, 0, none⟩ = some vf
  f1 : w.cell? ⟨rb, 1, none⟩ = some vr
  f2 : w.cell? ⟨rb, 2, none⟩ = some vg
  f3 : w.cell? ⟨rb, 3, none⟩ = some (.int .i64 (if s.begun then s.step else -1))
  f4 : w.cell? ⟨rb, 4, none⟩ = some (.int .i64 s.thread)
  f5 : w.cell? ⟨rb, 5, none⟩ = some (.bool (!s.free))
  z : ∀ o, o < 6 → w.frozen? ⟨rb, o, none⟩ = false
  rf : w.ownsRow 0 2 1 vf cs.length (fcells cs)
  rr : w.ownsRow 0 67 1 vr rvs.length rvs
  rg : w.ownsRow 0 93 7 vg s.log.length (fl rcells s.log)
  each : ∀ c, c < rvs.length → w.ownsRow 0 3 1 (va rvs c) (js c).length (icells (js c))
  pb : ρ rb = 0
  pf : ∀ g, vf.ownBlock = some g → ρ g = 1
  pr : ∀ g, vr.ownBlock = some g → ρ g = 2
  pg : ∀ g, vg.ownBlock = some g → ρ g = 3
  pe : ∀ c, c < rvs.length → ∀ g, (va rvs c).ownBlock = some g → ρ g = 4 + c

/-- Its blocks. -/
def RB (rb : Nat) (vf vr vg : Value) (rvs : List Value) (k : Nat) : Prop := k = rb ∨ vf.ownBlock = some k ∨ vr.ownBlock = some k ∨ vg.ownBlock = some k ∨ ∃ c, c < rvs.length ∧ (va rvs c).ownBlock = some k

section
variable {w w' : World} {rb : Nat} {vf vr vg : Value} {cs : List (Int × Int)} {rvs : List Value} {js : Nat → List Nat} {ρ : Nat → Nat} {s : Mm}
theorem RV.ltb (h : RV w rb vf vr vg cs rvs js ρ s) : rb < w.heap.size := World.block_lt_of_cell? _ _ h.f0
theorem RV.lt (h : RV w rb vf vr vg cs rvs js ρ s) {k : Nat} (hk : RB rb vf vr vg rvs k) : k < w.heap.size := by
  rcases hk with rfl | e | e | e | ⟨c, hc, e⟩
  · exact h.ltb
  · exact owns_lt' h.rf k e
  · exact owns_lt' h.rr k e
  · exact owns_lt' h.rg k e
  · exact owns_lt' (h.each c hc) k e
theorem RV.keep (h : RV w rb vf vr vg cs rvs js ρ s) {S : Nat → Prop} (k : Keeps S w w') (hS : ∀ i, RB rb vf vr vg rvs i → ¬ S i) : RV w' rb vf vr vg cs rvs js ρ s :=
  have hb : ¬ S rb := hS rb (.inl rfl)
  ⟨k.cell h.f0 hb, k.cell h.f1 hb, k.cell h.f2 hb, k.cell h.f3 hb, k.cell h.f4 hb, k.cell h.f5 hb, fun o ho => (k.frozen (p := ⟨rb, o, none⟩) h.ltb hb).trans (h.z o ho),
   k.owns h.rf (fun g e => hS g (.inr (.inl e))), k.owns h.rr (fun g e => hS g (.inr (.inr (.inl e)))), k.owns h.rg (fun g e => hS g (.inr (.inr (.inr (.inl e))))),
   fun c hc => k.owns (h.each c hc) (fun g e => hS g (.inr (.inr (.inr (.inr ⟨c, hc, e⟩))))), h.pb, h.pf, h.pr, h.pg, h.pe⟩
theorem RV.new (h : RV w rb vf vr vg cs rvs js ρ s) (k : Keeps (fun _ => False) w w') : RV w' rb vf vr vg cs rvs js ρ s := h.keep k (fun _ _ e => e)
theorem RV.first (h : RV w rb vf vr vg cs rvs js ρ s) {c : Nat} (hc : c < cs.length) {g : Nat} (hg : vf.ownBlock = some g) : w.cell? ⟨g, c, none⟩ = some (.int .i64 (ca cs c).1) := owns_cell h.rf hg (fcells_get hc)
theorem RV.list (h : RV w rb vf vr vg cs rvs js ρ s) {c : Nat} (hc : c < rvs.length) {g : Nat} (hg : vr.ownBlock = some g) : w.cell? ⟨g, c, none⟩ = some (va rvs c) := owns_cell h.rr hg (va_get hc)
theorem owns_slice {base e size n : Nat} {v : Value} {xs : List Value} (h : w.ownsRow base e size v n xs) : ∃ a cap, v = .slice a n cap ∧ (0 < n → ∃ g, a = some ⟨g, 0, none⟩ ∧ v.ownBlock = some g) := by
  rcases h.2 with ⟨rfl, h0⟩ | ⟨g, cap, cur, rfl, _⟩
  · exact ⟨none, 0, by rw [h0], fun e => by omega⟩
  · exact ⟨_, _, rfl, fun _ => ⟨g, rfl, rfl⟩⟩
end

/-- What a call leaves, by its object's blocks. -/
structure LeftP (w w' : World) (B B' : Nat → Prop) : Prop where
  keeps : Keeps B w w'
  old : ∀ k, B' k → B k ∨ w.heap.size ≤ k
theorem LeftP.refl (w : World) (B : Nat → Prop) : LeftP w w B B := ⟨Keeps.refl _ w, fun _ h => .inl h⟩
theorem LeftP.trans {w w' w'' : World} {B B' B'' : Nat → Prop} (h : LeftP w w' B B') (k : LeftP w' w'' B' B'') : LeftP w w'' B B'' :=
  ⟨h.keeps.trans' k.keeps (fun _ _ e => e) (fun i hi e => (h.old i e).elim id (fun e' => by omega)), fun i hi => (k.old i hi).elim (h.old i) (fun e => .inr (Nat.le_trans h.keeps.size e))⟩
theorem LeftP.new {w w' : World} {B : Nat → Prop} (h : Keeps (fun _ => False) w w') : LeftP w w' B B := ⟨h.mono (fun _ _ e => e.elim), fun _ h => .inl h⟩

/-- The document's memory; B: its blocks. -/
def RI (w : World) (rb : Nat) (s : Mm) (B : Nat → Prop) : Prop := ∃ vf vr vg rvs ρ, RV w rb vf vr vg s.cells rvs (ix s.log) ρ s ∧ rvs.length = s.cells.length ∧ (∀ c, s.cells.length ≤ c → ix s.log c = []) ∧ B = RB rb vf vr vg rvs
theorem RI.lt {w : World} {rb : Nat} {s : Mm} {B : Nat → Prop} (h : RI w rb s B) {k : Nat} (hk : B k) : k < w.heap.size := by
  obtain ⟨vf, vr, vg, rvs, ρ, h, _, _, rfl⟩ := h; exact h.lt hk
theorem RI.keep {w w' : World} {rb : Nat} {s : Mm} {B : Nat → Prop} (h : RI w rb s B) {S : Nat → Prop} (k : Keeps S w w') (hS : ∀ i, B i → ¬ S i) : RI w' rb s B := by
  obtain ⟨vf, vr, vg, rvs, ρ, h, hn, hi, rfl⟩ := h; exact ⟨vf, vr, vg, rvs, ρ, h.keep k hS, hn, hi, rfl⟩
theorem RI.new {w w' : World} {rb : Nat} {s : Mm} {B : Nat → Prop} (h : RI w rb s B) (k : Keeps (fun _ => False) w w') : RI w' rb s B := h.keep k (fun _ _ e => e)

/-- Writing one of the struct's fields. -/
theorem RV.field {w : World} {rb : Nat} {vf vr vg : Value} {cs : List (Int × Int)} {rvs : List Value} {js : Nat → List Nat} {ρ : Nat → Nat} {s s' : Mm} (h : RV w rb vf vr vg cs rvs js ρ s) (o : Nat) (v : Value) (ho : 3 ≤ o)
    (hl : s'.log = s.log)
    (e3 : o = 3 → v = .int .i64 (if s'.begun then s'.step else -1)) (n3 : o ≠ 3 → (if s'.begun then s'.step else -1) = (if s.begun then s.step else -1))
    (e4 : o = 4 → v = .int .i64 s'.thread) (n4 : o ≠ 4 → s'.thread = s.thread) (e5 : o = 5 → v = .bool (!s'.free)) (n5 : o ≠ 5 → s'.free = s.free) :
    RV (w.setCell ⟨rb, o, none⟩ v) rb vf vr vg cs rvs js ρ s' := by
  have K := keeps_set w rb o v
  have ot : ∀ k u, k ≠ o → w.cell? ⟨rb, k, none⟩ = some u → (w.setCell ⟨rb, o, none⟩ v).cell? ⟨rb, k, none⟩ = some u := fun k u hk hu => by
    rw [World.cell?_setCell_other _ _ _ _ (fun e => by injection e with _ e2; exact hk e2.symm)]; exact hu
  have sm : ∀ u, w.cell? ⟨rb, o, none⟩ = some u → (w.setCell ⟨rb, o, none⟩ v).cell? ⟨rb, o, none⟩ = some v := fun u hu => World.cell?_setCell_same _ _ _ hu
  have nb : ∀ g, ρ g ≠ 0 → ¬ g = rb := fun g hg e => hg (e ▸ h.pb)
  refine ⟨ot 0 _ (by omega) h.f0, ot 1 _ (by omega) h.f1, ot 2 _ (by omega) h.f2, ?_, ?_, ?_, fun k hk => by rw [World.frozen?_setCell]; exact h.z k hk, ?_, ?_, ?_, ?_, h.pb, h.pf, h.pr, h.pg, h.pe⟩
  · by_cases e : o = 3
    · subst e; rw [← e3 rfl]; exact sm _ h.f3
    · rw [n3 e]; exact ot 3 _ (fun e' => e e'.symm) h.f3
  · by_cases e : o = 4
    · subst e; rw [← e4 rfl]; exact sm _ h.f4
    · rw [n4 e]; exact ot 4 _ (fun e' => e e'.symm) h.f4
  · by_cases e : o = 5
    · subst e; rw [← e5 rfl]; exact sm _ h.f5
    · rw [n5 e]; exact ot 5 _ (fun e' => e e'.symm) h.f5
  · exact K.owns h.rf (fun g e => nb g (by rw [h.pf g e]; omega))
  · exact K.owns h.rr (fun g e => nb g (by rw [h.pr g e]; omega))
  · rw [hl]; exact K.owns h.rg (fun g e => nb g (by rw [h.pg g e]; omega))
  · intro c hc'; exact K.owns (h.each c hc') (fun g e => nb g (by rw [h.pe c hc' g e]; omega))

section
variable {w w1 : World} {rb g cap : Nat} {vf vr vg : Value} {cs : List (Int × Int)} {rvs : List Value} {js : Nat → List Nat} {ρ : Nat → Nat} {s : Mm}
/-- A new block gets a role. -/
def role (ρ : Nat → Nat) (g n : Nat) (k : Nat) : Nat := if k = g then n else ρ k
theorem role_at (ρ : Nat → Nat) (g n : Nat) : role ρ g n g = n := if_pos rfl
theorem role_off {ρ : Nat → Nat} {g n k : Nat} (h : k ≠ g) : role ρ g n k = ρ k := if_neg h

/-- A list of the struct grows by one, and is written down. -/
theorem RV.growF (h : RV w rb vf vr vg cs rvs js ρ s) {x : Int} (hg : w.grownBy w1 vf.ownBlock)
    (ho : w1.ownsRow 0 2 1 (.slice (some ⟨g, 0, none⟩) (cs.length + 1) cap) (cs.length + 1) (fcells cs ++ [.int .i64 x])) (hat : vf.ownBlock = some g ∨ g = w.heap.size) :
    RV (w1.setCell ⟨rb, 0, none⟩ (.slice (some ⟨g, 0, none⟩) (cs.length + 1) cap)) rb (.slice (some ⟨g, 0, none⟩) (cs.length + 1) cap) vr vg (cs ++ [(x, x)]) rvs js (role ρ g 1) s ∧
      Keeps (fun k => vf.ownBlock = some k ∨ k = rb) w (w1.setCell ⟨rb, 0, none⟩ (.slice (some ⟨g, 0, none⟩) (cs.length + 1) cap)) := by
  have K1 : Keeps (fun k => vf.ownBlock = some k) w w1 := (Keeps.refl _ w).grown hg (fun _ _ e => e)
  have K2 := keeps_set w1 rb 0 (.slice (some ⟨g, 0, none⟩) (cs.length + 1) cap)
  have hl := h.ltb
  have nf : ∀ k, ρ k ≠ 1 → ¬ vf.ownBlock = some k := fun k hk e => hk (h.pf k e)
  have nb : ∀ k, ρ k ≠ 0 → ¬ k = rb := fun k hk e => hk (e ▸ h.pb)
  have n0 : ¬ vf.ownBlock = some rb := nf rb (by rw [h.pb]; omega)
  have off : ∀ k, k < w.heap.size → ρ k ≠ 1 → k ≠ g := fun k hk hr e => by
    rcases hat with e' | e'
    · exact hr (by rw [e]; exact h.pf g e')
    · omega
  have gr : g ≠ rb := fun e => off rb hl (by rw [h.pb]; omega) e.symm
  have o : ∀ k v, k ≠ 0 → w.cell? ⟨rb, k, none⟩ = some v → (w1.setCell ⟨rb, 0, none⟩ (.slice (some ⟨g, 0, none⟩) (cs.length + 1) cap)).cell? ⟨rb, k, none⟩ = some v := fun k v hk hv => by
    rw [World.cell?_setCell_other _ _ _ _ (fun e => by cases e; exact hk rfl)]; exact K1.cell hv n0
  have ow : ∀ {e size n : Nat} {v : Value} {xs : List Value}, w.ownsRow 0 e size v n xs → (∀ k, v.ownBlock = some k → ρ k ≠ 1 ∧ ρ k ≠ 0) → (w1.setCell ⟨rb, 0, none⟩ (.slice (some ⟨g, 0, none⟩) (cs.length + 1) cap)).ownsRow 0 e size v n xs := fun hv hr => K2.owns (K1.owns hv (fun k e => nf k (hr k e).1)) (fun k e => nb k (hr k e).2)
  refine ⟨⟨World.cell?_setCell_same _ _ _ (K1.cell h.f0 n0), o _ _ (by decide) h.f1, o _ _ (by decide) h.f2, o _ _ (by decide) h.f3, o _ _ (by decide) h.f4, o _ _ (by decide) h.f5, fun k hk => ?_, ?_, ow h.rr (fun k e => by rw [h.pr k e]; omega), ow h.rg (fun k e => by rw [h.pg k e]; omega), fun c hc => ow (h.each c hc) (fun k e => by rw [h.pe c hc k e]; omega), ?_, ?_, ?_, ?_, ?_⟩, K1.trans' K2 (fun _ _ e => .inl e) (fun _ _ e => .inr e)⟩
  · rw [World.frozen?_setCell]; exact (K1.frozen (p := ⟨rb, k, none⟩) hl n0).trans (h.z k hk)
  · have e : (cs ++ [(x, x)]).length = cs.length + 1 := by simp
    have e' : fcells (cs ++ [(x, x)]) = fcells cs ++ [.int .i64 x] := by simp [fcells]
    rw [e, e']
    exact K2.owns ho (fun k e => by cases e; exact gr)
  · rw [role_off (Ne.symm gr)]; exact h.pb
  · intro k e; cases e; exact role_at _ _ _
  · intro k e; rw [role_off (off k (owns_lt' h.rr k e) (by rw [h.pr k e]; omega))]; exact h.pr k e
  · intro k e; rw [role_off (off k (owns_lt' h.rg k e) (by rw [h.pg k e]; omega))]; exact h.pg k e
  · intro c hc k e; rw [role_off (off k (owns_lt' (h.each c hc) k e) (by rw [h.pe c hc k e]; omega))]; exact h.pe c hc k e

theorem va_snoc_left {l : List Value} {u : Value} {c : Nat} (h : c < l.length) : va (l ++ [u]) c = va l c := by simp only [va, List.getD_eq_getElem?_getD]; rw [List.getElem?_append_left h]
theorem va_snoc_last {l : List Value} {u : Value} : va (l ++ [u]) l.length = u := by simp [va]
/-- The list of lists grows by an empty one. -/
theorem RV.growR (h : RV w rb vf vr vg cs rvs js ρ s) (hj : js rvs.length = []) (hg : w.grownBy w1 vr.ownBlock)
    (ho : w1.ownsRow 0 67 1 (.slice (some ⟨g, 0, none⟩) (rvs.length + 1) cap) (rvs.length + 1) (rvs ++ [.slice none 0 0])) (hat : vr.ownBlock = some g ∨ g = w.heap.size) :
    RV (w1.setCell ⟨rb, 1, none⟩ (.slice (some ⟨g, 0, none⟩) (rvs.length + 1) cap)) rb vf (.slice (some ⟨g, 0, none⟩) (rvs.length + 1) cap) vg cs (rvs ++ [.slice none 0 0]) js (role ρ g 2) s ∧
      Keeps (fun k => vr.ownBlock = some k ∨ k = rb) w (w1.setCell ⟨rb, 1, none⟩ (.slice (some ⟨g, 0, none⟩) (rvs.length + 1) cap)) := by
  have K1 : Keeps (fun k => vr.ownBlock = some k) w w1 := (Keeps.refl _ w).grown hg (fun _ _ e => e)
  have K2 := keeps_set w1 rb 1 (.slice (some ⟨g, 0, none⟩) (rvs.length + 1) cap)
  have hl := h.ltb
  have nf : ∀ k, ρ k ≠ 2 → ¬ vr.ownBlock = some k := fun k hk e => hk (h.pr k e)
  have nb : ∀ k, ρ k ≠ 0 → ¬ k = rb := fun k hk e => hk (e ▸ h.pb)
  have n0 : ¬ vr.ownBlock = some rb := nf rb (by rw [h.pb]; omega)
  have off : ∀ k, k < w.heap.size → ρ k ≠ 2 → k ≠ g := fun k hk hr e => by
    rcases hat with e' | e'
    · exact hr (by rw [e]; exact h.pr g e')
    · omega
  have gr : g ≠ rb := fun e => off rb hl (by rw [h.pb]; omega) e.symm
  have o : ∀ k v, k ≠ 1 → w.cell? ⟨rb, k, none⟩ = some v → (w1.setCell ⟨rb, 1, none⟩ (.slice (some ⟨g, 0, none⟩) (rvs.length + 1) cap)).cell? ⟨rb, k, none⟩ = some v := fun k v hk hv => by
    rw [World.cell?_setCell_other _ _ _ _ (fun e => by cases e; exact hk rfl)]; exact K1.cell hv n0
  have ow : ∀ {e size n : Nat} {v : Value} {xs : List Value}, w.ownsRow 0 e size v n xs → (∀ k, v.ownBlock = some k → ρ k ≠ 2 ∧ ρ k ≠ 0) → (w1.setCell ⟨rb, 1, none⟩ (.slice (some ⟨g, 0, none⟩) (rvs.length + 1) cap)).ownsRow 0 e size v n xs := fun hv hr => K2.owns (K1.owns hv (fun k e => nf k (hr k e).1)) (fun k e => nb k (hr k e).2)
  refine ⟨⟨o _ _ (by decide) h.f0, World.cell?_setCell_same _ _ _ (K1.cell h.f1 n0), o _ _ (by decide) h.f2, o _ _ (by decide) h.f3, o _ _ (by decide) h.f4, o _ _ (by decide) h.f5, fun k hk => ?_, ow h.rf (fun k e => by rw [h.pf k e]; omega), ?_, ow h.rg (fun k e => by rw [h.pg k e]; omega), fun c hc => ?_, ?_, ?_, ?_, ?_, ?_⟩, K1.trans' K2 (fun _ _ e => .inl e) (fun _ _ e => .inr e)⟩
  · rw [World.frozen?_setCell]; exact (K1.frozen (p := ⟨rb, k, none⟩) hl n0).trans (h.z k hk)
  · have e : (rvs ++ [Value.slice none 0 0]).length = rvs.length + 1 := by simp
    rw [e]
    exact K2.owns ho (fun k e => by cases e; exact gr)
  · simp at hc
    by_cases e : c = rvs.length
    · subst e; rw [va_snoc_last, hj]; exact World.ownsRow_nil _ _ _ _
    · rw [va_snoc_left (by omega)]
      exact ow (h.each c (by omega)) (fun k e => by rw [h.pe c (by omega) k e]; omega)
  · rw [role_off (Ne.symm gr)]; exact h.pb
  · intro k e; rw [role_off (off k (owns_lt' h.rf k e) (by rw [h.pf k e]; omega))]; exact h.pf k e
  · intro k e; cases e; exact role_at _ _ _
  · intro k e; rw [role_off (off k (owns_lt' h.rg k e) (by rw [h.pg k e]; omega))]; exact h.pg k e
  · intro c hc k e
    simp at hc
    by_cases e' : c = rvs.length
    · subst e'; rw [va_snoc_last] at e; cases e
    · rw [va_snoc_left (by omega)] at e
      rw [role_off (off k (owns_lt' (h.each c (by omega)) k e) (by rw [h.pe c (by omega) k e]; omega))]; exact h.pe c (by omega) k e
/-- The log grows by a row. -/
theorem RV.growG (h : RV w rb vf vr vg cs rvs js ρ s) {r : Rw} (hg : w.grownBy w1 vg.ownBlock)
    (ho : w1.ownsRow 0 93 7 (.slice (some ⟨g, 0, none⟩) (s.log.length + 1) cap) (s.log.length + 1) (fl rcells s.log ++ rcells r)) (hat : vg.ownBlock = some g ∨ g = w.heap.size) :
    RV (w1.setCell ⟨rb, 2, none⟩ (.slice (some ⟨g, 0, none⟩) (s.log.length + 1) cap)) rb vf vr (.slice (some ⟨g, 0, none⟩) (s.log.length + 1) cap) cs rvs js (role ρ g 3) { s with log := s.log ++ [r] } ∧
      Keeps (fun k => vg.ownBlock = some k ∨ k = rb) w (w1.setCell ⟨rb, 2, none⟩ (.slice (some ⟨g, 0, none⟩) (s.log.length + 1) cap)) := by
  have K1 : Keeps (fun k => vg.ownBlock = some k) w w1 := (Keeps.refl _ w).grown hg (fun _ _ e => e)
  have K2 := keeps_set w1 rb 2 (.slice (some ⟨g, 0, none⟩) (s.log.length + 1) cap)
  have hl := h.ltb
  have nf : ∀ k, ρ k ≠ 3 → ¬ vg.ownBlock = some k := fun k hk e => hk (h.pg k e)
  have nb : ∀ k, ρ k ≠ 0 → ¬ k = rb := fun k hk e => hk (e ▸ h.pb)
  have n0 : ¬ vg.ownBlock = some rb := nf rb (by rw [h.pb]; omega)
  have off : ∀ k, k < w.heap.size → ρ k ≠ 3 → k ≠ g := fun k hk hr e => by
    rcases hat with e' | e'
    · exact hr (by rw [e]; exact h.pg g e')
    · omega
  have gr : g ≠ rb := fun e => off rb hl (by rw [h.pb]; omega) e.symm
  have o : ∀ k v, k ≠ 2 → w.cell? ⟨rb, k, none⟩ = some v → (w1.setCell ⟨rb, 2, none⟩ (.slice (some ⟨g, 0, none⟩) (s.log.length + 1) cap)).cell? ⟨rb, k, none⟩ = some v := fun k v hk hv => by
    rw [World.cell?_setCell_other _ _ _ _ (fun e => by cases e; exact hk rfl)]; exact K1.cell hv n0
  have ow : ∀ {e size n : Nat} {v : Value} {xs : List Value}, w.ownsRow 0 e size v n xs → (∀ k, v.ownBlock = some k → ρ k ≠ 3 ∧ ρ k ≠ 0) → (w1.setCell ⟨rb, 2, none⟩ (.slice (some ⟨g, 0, none⟩) (s.log.length + 1) cap)).ownsRow 0 e size v n xs := fun hv hr => K2.owns (K1.owns hv (fun k e => nf k (hr k e).1)) (fun k e => nb k (hr k e).2)
  refine ⟨⟨o _ _ (by decide) h.f0, o _ _ (by decide) h.f1, World.cell?_setCell_same _ _ _ (K1.cell h.f2 n0), o _ _ (by decide) h.f3, o _ _ (by decide) h.f4, o _ _ (by decide) h.f5, fun k hk => ?_, ow h.rf (fun k e => by rw [h.pf k e]; omega), ow h.rr (fun k e => by rw [h.pr k e]; omega), ?_, fun c hc => ow (h.each c hc) (fun k e => by rw [h.pe c hc k e]; omega), ?_, ?_, ?_, ?_, ?_⟩, K1.trans' K2 (fun _ _ e => .inl e) (fun _ _ e => .inr e)⟩
  · rw [World.frozen?_setCell]; exact (K1.frozen (p := ⟨rb, k, none⟩) hl n0).trans (h.z k hk)
  · have e : (s.log ++ [r]).length = s.log.length + 1 := by simp
    have e' : fl rcells (s.log ++ [r]) = fl rcells s.log ++ rcells r := by simp only [fl_append]; rfl
    show World.ownsRow _ _ _ _ _ (s.log ++ [r]).length (fl rcells (s.log ++ [r]))
    rw [e, e']
    exact K2.owns ho (fun k e => by cases e; exact gr)
  · rw [role_off (Ne.symm gr)]; exact h.pb
  · intro k e; rw [role_off (off k (owns_lt' h.rf k e) (by rw [h.pf k e]; omega))]; exact h.pf k e
  · intro k e; rw [role_off (off k (owns_lt' h.rr k e) (by rw [h.pr k e]; omega))]; exact h.pr k e
  · intro k e; cases e; exact role_at _ _ _
  · intro c hc k e; rw [role_off (off k (owns_lt' (h.each c hc) k e) (by rw [h.pe c hc k e]; omega))]; exact h.pe c hc k e

theorem va_set {l : List Value} {c k : Nat} {u : Value} (hc : c < l.length) : va (l.set c u) k = if k = c then u else va l k := by
  simp only [va, List.getD_eq_getElem?_getD]
  by_cases e : k = c
  · subst e; rw [if_pos rfl]; simp [hc]
  · rw [if_neg e, List.getElem?_set_ne (Ne.symm e)]
/-- One of the lists of numbers grows by one, and is written down in the list of lists. -/
theorem RV.growE (h : RV w rb vf vr vg cs rvs js ρ s) {c m gr : Nat} (hc : c < rvs.length) (hgr : vr.ownBlock = some gr) (hg : w.grownBy w1 (va rvs c).ownBlock)
    (ho : w1.ownsRow 0 3 1 (.slice (some ⟨g, 0, none⟩) ((js c).length + 1) cap) ((js c).length + 1) (icells (js c) ++ [.int .i64 (m : Int)])) (hat : (va rvs c).ownBlock = some g ∨ g = w.heap.size) :
    RV (w1.setCell ⟨gr, c, none⟩ (.slice (some ⟨g, 0, none⟩) ((js c).length + 1) cap)) rb vf vr vg cs (rvs.set c (.slice (some ⟨g, 0, none⟩) ((js c).length + 1) cap)) (fun k => if k = c then js c ++ [m] else js k) (role ρ g (4 + c)) s ∧
      Keeps (fun k => (va rvs c).ownBlock = some k ∨ k = gr) w (w1.setCell ⟨gr, c, none⟩ (.slice (some ⟨g, 0, none⟩) ((js c).length + 1) cap)) := by
  have K1 : Keeps (fun k => (va rvs c).ownBlock = some k) w w1 := (Keeps.refl _ w).grown hg (fun _ _ e => e)
  have K2 := keeps_set w1 gr c (.slice (some ⟨g, 0, none⟩) ((js c).length + 1) cap)
  have hl := h.ltb
  have nf : ∀ k, ρ k ≠ 4 + c → ¬ (va rvs c).ownBlock = some k := fun k hk e => hk (h.pe c hc k e)
  have nb : ∀ k, ρ k ≠ 2 → ¬ k = gr := fun k hk e => hk (e ▸ h.pr gr hgr)
  have n0 : ¬ (va rvs c).ownBlock = some rb := nf rb (by rw [h.pb]; omega)
  have nr : ¬ (va rvs c).ownBlock = some gr := nf gr (by rw [h.pr gr hgr]; omega)
  have rg : ¬ rb = gr := nb rb (by rw [h.pb]; omega)
  have off : ∀ k, k < w.heap.size → ρ k ≠ 4 + c → k ≠ g := fun k hk hr e => by
    rcases hat with e' | e'
    · exact hr (by rw [e]; exact h.pe c hc g e')
    · omega
  have lgr := owns_lt' h.rr gr hgr
  have gg : g ≠ gr := fun e => off gr lgr (by rw [h.pr gr hgr]; omega) e.symm
  have o : ∀ k v, w.cell? ⟨rb, k, none⟩ = some v → (w1.setCell ⟨gr, c, none⟩ (.slice (some ⟨g, 0, none⟩) ((js c).length + 1) cap)).cell? ⟨rb, k, none⟩ = some v := fun k v hv => K2.cell (K1.cell hv n0) rg
  have ow : ∀ {e size n : Nat} {v : Value} {xs : List Value}, w.ownsRow 0 e size v n xs → (∀ k, v.ownBlock = some k → ρ k ≠ 4 + c ∧ ρ k ≠ 2) → (w1.setCell ⟨gr, c, none⟩ (.slice (some ⟨g, 0, none⟩) ((js c).length + 1) cap)).ownsRow 0 e size v n xs := fun hv hr => K2.owns (K1.owns hv (fun k e => nf k (hr k e).1)) (fun k e => nb k (hr k e).2)
  refine ⟨⟨o _ _ h.f0, o _ _ h.f1, o _ _ h.f2, o _ _ h.f3, o _ _ h.f4, o _ _ h.f5, fun k hk => ?_, ow h.rf (fun k e => by rw [h.pf k e]; omega), ?_, ow h.rg (fun k e => by rw [h.pg k e]; omega), fun k hk => ?_, ?_, ?_, ?_, ?_, ?_⟩, K1.trans' K2 (fun _ _ e => .inl e) (fun _ _ e => .inr e)⟩
  · rw [K2.frozen (p := ⟨rb, k, none⟩) (Nat.lt_of_lt_of_le hl K1.size) rg, K1.frozen (p := ⟨rb, k, none⟩) hl n0]; exact h.z k hk
  · have hrr := K1.owns h.rr (fun k e => by rw [hgr] at e; cases e; exact nr)
    obtain ⟨a, cp, hv, hs⟩ := owns_slice h.rr
    obtain ⟨g', e1, e2⟩ := hs (by omega)
    rw [hgr] at e2
    cases e2
    subst e1
    rw [hv] at hrr ⊢
    obtain ⟨r1, _⟩ := hrr.stored c (.slice (some ⟨g, 0, none⟩) ((js c).length + 1) cap)
    rw [List.length_set]
    exact r1
  · simp only [List.length_set] at hk
    rw [va_set hc]
    by_cases e : k = c
    · subst e
      rw [if_pos rfl, if_pos rfl, List.length_append]
      have e' : icells (js k ++ [m]) = icells (js k) ++ [.int .i64 (m : Int)] := by simp [icells]
      rw [e']
      exact K2.owns ho (fun j e => by cases e; exact gg)
    · rw [if_neg e, if_neg e]
      exact ow (h.each k hk) (fun j e' => by rw [h.pe k hk j e']; omega)
  · rw [role_off (off rb hl (by rw [h.pb]; omega))]; exact h.pb
  · intro k e; rw [role_off (off k (owns_lt' h.rf k e) (by rw [h.pf k e]; omega))]; exact h.pf k e
  · intro k e; rw [role_off (off k (owns_lt' h.rr k e) (by rw [h.pr k e]; omega))]; exact h.pr k e
  · intro k e; rw [role_off (off k (owns_lt' h.rg k e) (by rw [h.pg k e]; omega))]; exact h.pg k e
  · intro k hk j e
    simp only [List.length_set] at hk
    rw [va_set hc] at e
    by_cases e' : k = c
    · rw [if_pos e'] at e; cases e; rw [e']; exact role_at _ _ _
    · rw [if_neg e'] at e
      rw [role_off (off j (owns_lt' (h.each k hk) j e) (by rw [h.pe k hk j e]; omega))]; exact h.pe k hk j e
end
end Go.Proofs.YtaikngpgmcpecaaGreat
