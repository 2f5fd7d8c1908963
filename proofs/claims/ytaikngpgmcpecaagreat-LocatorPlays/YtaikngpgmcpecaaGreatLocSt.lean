import Derived.Test.YtaikngpgmcpecaaGreatCelB
import Derived.Test.YtaikngpgmcpecaaGreatCelBS
namespace Go.Proofs.YtaikngpgmcpecaaGreat
open Go.RowKit

/-- An attempt: what it was made with; its two cells. -/
structure At where
  thread : Int
  stamp : Int
  prio : Int
  status : Nat
  flag : Nat
/-- A locator. -/
structure Lo where
  owner : Nat
  old : Nat
  new : Nat
  used : Bool
/-- A value. -/
structure Vl where
  num : Int
  next : Int
  dead : Bool
deriving DecidableEq
/-- A world: the objects' cells, the attempts, the locators, the versions. -/
structure Ws where
  objs : List Nat
  atts : List At
  locs : List Lo
  vals : List Vl

def oc (n : Nat) : List Value := [.int .i64 (n : Int)]
def ac (a : At) : List Value := [.int .i64 a.thread, .int .i64 a.stamp, .int .i64 a.prio, .int .i64 (a.status : Int), .int .i64 (a.flag : Int)]
def lc (l : Lo) : List Value := [.int .i64 (l.owner : Int), .int .i64 (l.old : Int), .int .i64 (l.new : Int), .bool l.used]
def vc3 (v : Vl) : List Value := [.int .i64 v.num, .int .i64 v.next, .bool v.dead]
def vv (v : Vl) : Value := .agg #[.int .i64 v.num, .int .i64 v.next, .bool v.dead]
theorem oc_len (n : Nat) : (oc n).length = 1 := rfl
theorem ac_len (a : At) : (ac a).length = 5 := rfl
theorem lc_len (l : Lo) : (lc l).length = 4 := rfl
theorem vc3_len (v : Vl) : (vc3 v).length = 3 := rfl
def at0 : At := ⟨0, 0, 0, 0, 0⟩
def lo0 : Lo := ⟨0, 0, 0, false⟩
def vl0 : Vl := ⟨0, 0, false⟩
def Ws.ob (s : Ws) (i : Nat) : Nat := s.objs.getD i 0
def Ws.att (s : Ws) (i : Nat) : At := s.atts.getD i at0
def Ws.lo (s : Ws) (i : Nat) : Lo := s.locs.getD i lo0
def Ws.vl (s : Ws) (i : Nat) : Vl := s.vals.getD i vl0
theorem getD_get {α : Type} {l : List α} {d : α} {i : Nat} (h : i < l.length) : l[i]? = some (l.getD i d) := by simp [List.getD_eq_getElem?_getD, h]

/-- What is done to the blocks of some roles: others stand; new blocks have such a role or none. -/
structure Ext (S : Nat → Prop) (w w' : World) (ρ ρ' : Nat → Nat) : Prop where
  keeps : Keeps (fun k => S (ρ k)) w w'
  old : ∀ k, k < w.heap.size → ρ' k = ρ k
  new : ∀ k, w.heap.size ≤ k → S (ρ' k) ∨ ρ' k = 0
/-- No block that is not there has a role. -/
def Bnd (w : World) (ρ : Nat → Nat) : Prop := ∀ k, w.heap.size ≤ k → ρ k = 0

section
variable {S T : Nat → Prop} {w w' w'' : World} {ρ ρ' ρ'' : Nat → Nat}
theorem Ext.refl (S : Nat → Prop) (w : World) (h : Bnd w ρ) : Ext S w w ρ ρ := ⟨Keeps.refl _ w, fun _ _ => rfl, fun k hk => .inr (h k hk)⟩
theorem Ext.trans (h : Ext S w w' ρ ρ') (k : Ext S w' w'' ρ' ρ'') : Ext S w w'' ρ ρ'' :=
  ⟨⟨k.keeps.os.trans h.keeps.os, k.keeps.tape.trans h.keeps.tape, k.keeps.output.trans h.keeps.output, Nat.le_trans h.keeps.size k.keeps.size, fun i hi hs => (k.keeps.block i (Nat.lt_of_lt_of_le hi h.keeps.size) (by rw [h.old i hi]; exact hs)).trans (h.keeps.block i hi hs)⟩,
   fun i hi => (k.old i (Nat.lt_of_lt_of_le hi h.keeps.size)).trans (h.old i hi),
   fun i hi => (Nat.lt_or_ge i w'.heap.size).elim (fun l => by rw [k.old i l]; exact h.new i hi) (k.new i)⟩
theorem Ext.mono (h : Ext S w w' ρ ρ') (hS : ∀ r, S r → T r) : Ext T w w' ρ ρ' := ⟨h.keeps.mono (fun _ _ e => hS _ e), h.old, fun k hk => (h.new k hk).imp (hS _) id⟩
theorem Ext.cell (h : Ext S w w' ρ ρ') {p : Addr} {v : Value} (hc : w.cell? p = some v) (hS : ¬ S (ρ p.block)) : w'.cell? p = some v := h.keeps.cell hc hS
/-- New blocks without a role. -/
theorem Ext.alloc (h : Bnd w ρ) (k : Keeps (fun _ => False) w w') : Ext S w w' ρ ρ ∧ Bnd w' ρ := ⟨⟨k.mono (fun _ _ e => e.elim), fun _ _ => rfl, fun i hi => .inr (h i hi)⟩, fun i hi => h i (Nat.le_trans k.size hi)⟩
end

/-- The roles with new blocks of T. -/
noncomputable def ro (ρ : Nat → Nat) (w w' : World) (T : Nat → Prop) (r : Nat) : Nat → Nat := fun k => by classical exact if k < w.heap.size then ρ k else if T k ∧ k < w'.heap.size then r else 0
section
variable {w w' : World} {ρ : Nat → Nat} {T : Nat → Prop} {r k : Nat}
theorem ro_old (h : k < w.heap.size) : ro ρ w w' T r k = ρ k := by simp [ro, h]
theorem ro_new (h : w.heap.size ≤ k) (hT : T k) (h' : k < w'.heap.size) : ro ρ w w' T r k = r := by
  have : ¬ k < w.heap.size := by omega
  simp [ro, this, hT, h']
theorem ro_bnd (h : w.heap.size ≤ w'.heap.size) : Bnd w' (ro ρ w w' T r) := fun i hi => by
  have h1 : ¬ i < w.heap.size := by omega
  have h2 : ¬ i < w'.heap.size := by omega
  simp [ro, h1, h2]
theorem ro_ext {S : Nat → Prop} (hk : Keeps (fun k => S (ρ k)) w w') (hr : S r) : Ext S w w' ρ (ro ρ w w' T r) :=
  ⟨hk, fun i hi => ro_old hi, fun i hi => by
    have h1 : ¬ i < w.heap.size := by omega
    by_cases h2 : T i ∧ i < w'.heap.size
    · left; simp [ro, h1, h2]; exact hr
    · right; simp [ro, h1, h2]⟩
end

/-- A memory, its blocks of role u. -/
def MJ (w : World) (ρ : Nat → Nat) (u mb : Nat) (m : Mm) : Prop := ∃ F, MI w mb m F ∧ ∀ k ∈ F, ρ k = u
theorem MJ.ext {S : Nat → Prop} {w w' : World} {ρ ρ' : Nat → Nat} {u mb : Nat} {m : Mm} (h : MJ w ρ u mb m) (x : Ext S w w' ρ ρ') (hS : ¬ S u) : MJ w' ρ' u mb m := by
  obtain ⟨F, h, hF⟩ := h
  exact ⟨F, h.keep x.keeps (fun i hi e => hS (hF i hi ▸ e)), fun k hk => (x.old k (h.lt k hk)).trans (hF k hk)⟩
theorem MJ.next {w w' : World} {ρ : Nat → Nat} {u mb : Nat} {m' : Mm} {F F' : List Nat} (hF : ∀ k ∈ F, ρ k = u) (h : MI w' mb m' F') (l : Left w w' F F') : ∃ ρ', MJ w' ρ' u mb m' ∧ Ext (fun r => r = u) w w' ρ ρ' ∧ Bnd w' ρ' :=
  ⟨ro ρ w w' (fun k => k ∈ F') u, ⟨F', h, fun k hk => (Nat.lt_or_ge k w.heap.size).elim (fun e => by rw [ro_old e]; exact (l.old k hk).elim (hF k) (fun e' => by omega)) (fun e => ro_new e hk (h.lt k hk))⟩, ro_ext (l.keeps.mono (fun i _ e => hF i e)) rfl, ro_bnd l.keeps.size⟩

/-- A pool: its list stands at p, its block has role r. -/
structure PJ (w : World) (ρ : Nat → Nat) (p : Addr) (r e z : Nat) (v : Value) (n : Nat) (xs : List Value) : Prop where
  at_ : w.cell? p = some v
  row : w.ownsRow 0 e z v n xs
  role : ∀ g, v.ownBlock = some g → ρ g = r
section
variable {S : Nat → Prop} {w w' : World} {ρ ρ' : Nat → Nat} {p : Addr} {r e z n : Nat} {v : Value} {xs : List Value}
theorem PJ.ext (h : PJ w ρ p r e z v n xs) (x : Ext S w w' ρ ρ') (hp : ¬ S (ρ p.block)) (hr : ¬ S r) : PJ w' ρ' p r e z v n xs :=
  ⟨x.cell h.at_ hp, x.keeps.owns h.row (fun g hg e => hr (h.role g hg ▸ e)), fun g hg => (x.old g (owns_lt' h.row g hg)).trans (h.role g hg)⟩
theorem PJ.slice (h : PJ w ρ p r e z v n xs) : ∃ a cap, v = .slice a n cap ∧ (0 < n → ∃ g, a = some ⟨g, 0, none⟩ ∧ v.ownBlock = some g ∧ ρ g = r) := by
  rcases h.row.2 with ⟨h1, h0⟩ | ⟨g, cap, cur, h1, _⟩
  · exact ⟨none, 0, by rw [h1, h0], fun e => by omega⟩
  · exact ⟨_, _, h1, fun _ => ⟨g, rfl, by rw [h1]; rfl, h.role g (by rw [h1]; rfl)⟩⟩
end

/-- A world: block wb is the struct, of role j; its four lists are of the roles behind it. -/
structure WV (w : World) (ρ : Nat → Nat) (j wb mb : Nat) (s : Ws) (vo va vl vn : Value) : Prop where
  role : ρ wb = j
  mem : w.cell? ⟨wb, 0, none⟩ = some (.pointer (some ⟨mb, 0, none⟩))
  z : ∀ o, o < 5 → w.frozen? ⟨wb, o, none⟩ = false
  po : PJ w ρ ⟨wb, 1, none⟩ (j + 1) 3 1 vo s.objs.length (fl oc s.objs)
  pa : PJ w ρ ⟨wb, 2, none⟩ (j + 2) 99 5 va s.atts.length (fl ac s.atts)
  pl : PJ w ρ ⟨wb, 3, none⟩ (j + 3) 105 4 vl s.locs.length (fl lc s.locs)
  pv : PJ w ρ ⟨wb, 4, none⟩ (j + 4) 37 3 vn s.vals.length (fl vc3 s.vals)
def WJ (w : World) (ρ : Nat → Nat) (j wb mb : Nat) (s : Ws) : Prop := ∃ vo va vl vn, WV w ρ j wb mb s vo va vl vn
section
variable {S : Nat → Prop} {w w' : World} {ρ ρ' : Nat → Nat} {j wb mb : Nat} {s : Ws} {vo va vl vn : Value}
theorem WV.lt (h : WV w ρ j wb mb s vo va vl vn) : wb < w.heap.size := World.block_lt_of_cell? _ _ h.mem
theorem WV.ext (h : WV w ρ j wb mb s vo va vl vn) (x : Ext S w w' ρ ρ') (hS : ∀ r, j ≤ r → r < j + 5 → ¬ S r) : WV w' ρ' j wb mb s vo va vl vn :=
  have h0 : ¬ S (ρ wb) := by rw [h.role]; exact hS j (by omega) (by omega)
  ⟨(x.old wb h.lt).trans h.role, x.cell h.mem h0, fun o ho => (x.keeps.frozen (p := ⟨wb, o, none⟩) h.lt h0).trans (h.z o ho), h.po.ext x h0 (hS _ (by omega) (by omega)), h.pa.ext x h0 (hS _ (by omega) (by omega)), h.pl.ext x h0 (hS _ (by omega) (by omega)), h.pv.ext x h0 (hS _ (by omega) (by omega))⟩
theorem WJ.ext (h : WJ w ρ j wb mb s) (x : Ext S w w' ρ ρ') (hS : ∀ r, j ≤ r → r < j + 5 → ¬ S r) : WJ w' ρ' j wb mb s := by
  obtain ⟨vo, va, vl, vn, h⟩ := h
  exact ⟨vo, va, vl, vn, h.ext x hS⟩
end
end Go.Proofs.YtaikngpgmcpecaaGreat
