import Derived.Test.YtagplkgjdaojnaaTabFl
import Derived.Test.YtagplkgjdaojnaaTabMap
import Derived.Maps.AppendAt
import Derived.Deep.AppendSrc
import Derived.IntWalk
import Derived.Laws.OwnMore
namespace Go.Proofs.Ytagplkgjdaojnaa
open Go.RowKit
attribute [local go_sem] Oper.semAt_some

/-- A table's blocks. -/
structure Tk where
  tb : Nat
  ve : Value
  vm : Option Nat
  vf : Value
def Tk.Blk (T : Tk) (k : Nat) : Prop := k = T.tb ∨ T.ve.ownBlock = some k ∨ T.vm = some k ∨ T.vf.ownBlock = some k
def ecells (e : En) : List Value := [.int .i64 e.ob, .int .i64 e.ver, .int .i64 (e.ord : Int)]
theorem ecells_len (e : En) : (ecells e).length = 3 := rfl
def ev (e : En) : Value := .agg #[.int .i64 e.ob, .int .i64 e.ver, .int .i64 (e.ord : Int)]
def ev0 : Value := .agg #[.int .i64 0, .int .i64 0, .int .i64 0]
def fcells (rs : List Rd) : List Value := rs.map fun r => .int .i64 (r.fate : Int)
theorem fcells_len (rs : List Rd) : (fcells rs).length = rs.length := by simp [fcells]
/-- A table in memory. -/
structure TV (w : World) (T : Tk) (rs : List Rd) : Prop where
  f0 : w.cell? ⟨T.tb, 0, none⟩ = some T.ve
  f1 : w.cell? ⟨T.tb, 1, none⟩ = some (.map T.vm)
  f2 : w.cell? ⟨T.tb, 2, none⟩ = some T.vf
  z : ∀ o, o < 3 → w.frozen? ⟨T.tb, o, none⟩ = false
  re : w.ownsRow 0 36 3 T.ve (es rs).length (fl ecells (es rs))
  rf : w.ownsRow 0 27 1 T.vf rs.length (fcells rs)
  mp : (T.vm = none ∧ rs = []) ∨ ∃ mb, T.vm = some mb ∧ MI w mb (es rs).length (pl (es rs))
  gd : Gd rs
  n1 : T.ve.ownBlock ≠ some T.tb
  n2 : T.vf.ownBlock ≠ some T.tb
  n3 : ∀ g, T.ve.ownBlock = some g → T.vf.ownBlock ≠ some g
  n4 : T.vm ≠ some T.tb
  n5 : ∀ g, T.vm = some g → T.ve.ownBlock ≠ some g ∧ T.vf.ownBlock ≠ some g
section
variable {w w' : World} {T : Tk} {rs : List Rd}
theorem TV.lt (h : TV w T rs) {k : Nat} (hk : T.Blk k) : k < w.heap.size := by
  rcases hk with rfl | hk | hk | hk
  · exact World.block_lt_of_cell? _ _ h.f0
  · exact owns_lt' h.re k hk
  · rcases h.mp with ⟨e, _⟩ | ⟨mb, e, hm⟩
    · rw [e] at hk; cases hk
    · rw [e] at hk; cases hk; exact hm.lt
  · exact owns_lt' h.rf k hk
theorem TV.tlt (h : TV w T rs) : T.tb < w.heap.size := h.lt (.inl rfl)
theorem TV.keep (h : TV w T rs) {S : Nat → Prop} (k : Keeps S w w') (hS : ∀ i, T.Blk i → ¬ S i) : TV w' T rs := by
  have ht := hS T.tb (.inl rfl)
  refine ⟨k.cell h.f0 ht, k.cell h.f1 ht, k.cell h.f2 ht, fun o ho => (k.frozen (p := ⟨T.tb, o, none⟩) h.tlt ht).trans (h.z o ho), k.owns h.re (fun g e => hS g (.inr (.inl e))), k.owns h.rf (fun g e => hS g (.inr (.inr (.inr e)))), ?_, h.gd, h.n1, h.n2, h.n3, h.n4, h.n5⟩
  rcases h.mp with e | ⟨mb, e, hm⟩
  · exact .inl e
  · exact .inr ⟨mb, e, hm.keep k (hS mb (.inr (.inr (.inl e))))⟩
theorem TV.new (h : TV w T rs) (k : Keeps (fun _ => False) w w') : TV w' T rs := h.keep k (fun _ _ e => e)
/-- An entry's cells. -/
structure EnAt (w : World) (g o : Nat) (e : En) : Prop where
  r0 : w.cell? ⟨g, o, none⟩ = some (.int .i64 e.ob)
  r1 : w.cell? ⟨g, o + 1, none⟩ = some (.int .i64 e.ver)
  r2 : w.cell? ⟨g, o + 2, none⟩ = some (.int .i64 (e.ord : Int))
theorem EnAt.keep {g o : Nat} {e : En} (h : EnAt w g o e) {S : Nat → Prop} (k : Keeps S w w') (hg : ¬ S g) : EnAt w' g o e := ⟨k.cell h.r0 hg, k.cell h.r1 hg, k.cell h.r2 hg⟩
theorem owns_en {base ty n : Nat} {v : Value} {l : List En} (h : w.ownsRow base ty 3 v n (fl ecells l)) {g : Nat} (hg : v.ownBlock = some g) {p : Nat} {e : En} (he : l[p]? = some e) : EnAt w g (p * 3) e := by
  have q : ∀ j, j < 3 → (fl ecells l)[p * 3 + j]? = (ecells e)[j]? := fun j hj => by have := fl_get ecells_len l p j hj; rw [he] at this; exact this
  exact ⟨owns_cell h hg (q 0 (by omega)), owns_cell h hg (q 1 (by omega)), owns_cell h hg (q 2 (by omega))⟩
/-- The list of the entries as a value. -/
theorem TV.eform (h : TV w T rs) : ∃ a cap, T.ve = .slice a (es rs).length cap ∧ ∀ p e, (es rs)[p]? = some e → ∃ g, a = some ⟨g, 0, none⟩ ∧ T.ve.ownBlock = some g ∧ EnAt w g (p * 3) e := by
  obtain ⟨a, cap, hv, hg⟩ := owns_form h.re
  refine ⟨a, cap, hv, fun p e he => ?_⟩
  obtain ⟨g, e1, e2⟩ := hg (by have := (List.getElem?_eq_some_iff.1 he).1; omega)
  exact ⟨g, e1, e2, owns_en h.re e2 he⟩
theorem TV.fform (h : TV w T rs) : ∃ a cap, T.vf = .slice a rs.length cap ∧ ∀ j r, rs[j]? = some r → ∃ g, a = some ⟨g, 0, none⟩ ∧ T.vf.ownBlock = some g ∧ w.cell? ⟨g, j, none⟩ = some (.int .i64 (r.fate : Int)) ∧ w.frozen? ⟨g, j, none⟩ = false := by
  obtain ⟨a, cap, hv, hg⟩ := owns_form h.rf
  refine ⟨a, cap, hv, fun j r hr => ?_⟩
  obtain ⟨g, e1, e2⟩ := hg (by have := (List.getElem?_eq_some_iff.1 hr).1; omega)
  have ho := h.rf
  rw [hv, e1] at ho
  exact ⟨g, e1, e2, owns_cell h.rf e2 (by simp [fcells, hr]), ho.frozenAt j⟩
theorem TV.look (h : TV w T rs) {k : Int} (hk : I64 k) {w' : World} (K : Keeps (fun _ => False) w w') :
    (Instr.lookup 47 (.map T.vm) (.int .i64 k) true).run Try.prog w' = .ok (.tuple #[.int .i64 (((pl (es rs) k).getD 0 : Nat) : Int), .bool (pl (es rs) k).isSome]) w' := by
  rcases h.mp with ⟨e, rfl⟩ | ⟨mb, e, hm⟩
  · rw [e, look_nil hk]; rfl
  · rw [e, (hm.keep K (fun e => e)).look hk]
end

set_option maxHeartbeats 1600000 in
set_option maxRecDepth 1000000 in
theorem new_any (w : World) : Calls Try.prog 8 #[] w fun e w' => e = .returned (.pointer (some ⟨w.heap.size, 0, none⟩)) ∧ TV w' ⟨w.heap.size, .slice none 0 0, none, .slice none 0 0⟩ [] ∧ Keeps (fun _ => False) w w' := by
  go_enter Try.func8, Try.ntmps8
  go_wp2
  go_ret
  refine ⟨rfl, ⟨?_, ?_, ?_, fun o ho => ?_, World.ownsRow_nil _ _ _ _, World.ownsRow_nil _ _ _ _, .inl ⟨rfl, rfl⟩, Gd.nil, fun e => (by cases e), fun e => (by cases e), fun g e => (by cases e), fun e => (by cases e), fun g e => (by cases e)⟩, (Keeps.refl _ w).alloc _⟩
  · simp
  · simp
  · simp
  · simp
set_option maxHeartbeats 1600000 in
set_option maxRecDepth 1000000 in
theorem len_any {w : World} {T : Tk} {rs : List Rd} (h : TV w T rs) : Calls Try.prog 16 #[.pointer (some ⟨T.tb, 0, none⟩)] w fun e w' => e = .returned (.int .i64 ((es rs).length : Int)) ∧ w' = w := by
  obtain ⟨a, cap, hv, _⟩ := h.eform
  have f0 := h.f0
  rw [hv] at f0
  clear h hv
  go_enter Try.func16, Try.ntmps16
  go_wp2
  go_ret
  exact ⟨rfl, rfl⟩
set_option maxHeartbeats 1600000 in
set_option maxRecDepth 1000000 in
theorem added_any {w : World} {T : Tk} {rs : List Rd} (h : TV w T rs) : Calls Try.prog 13 #[.pointer (some ⟨T.tb, 0, none⟩)] w fun e w' => e = .returned (.int .i64 (rs.length : Int)) ∧ w' = w := by
  obtain ⟨a, cap, hv, _⟩ := h.fform
  have f2 := h.f2
  rw [hv] at f2
  clear h hv
  go_enter Try.func13, Try.ntmps13
  go_wp2
  go_ret
  exact ⟨rfl, rfl⟩

/-- What FateOf answers. -/
def fto (rs : List Rd) (k : Int) : Int × Int := if k < 0 ∨ (rs.length : Int) ≤ k then (0, 72) else (((rs[k.toNat]?).map Rd.fate).getD 0, 0)
set_option maxHeartbeats 1600000 in
set_option maxRecDepth 1000000 in
theorem fateOf_any {w : World} {T : Tk} {rs : List Rd} (h : TV w T rs) (k : Int) : Calls Try.prog 10 #[.pointer (some ⟨T.tb, 0, none⟩), .int .i64 k] w fun e w' => e = .returned (.tuple #[.int .i64 (fto rs k).1, .int .i64 (fto rs k).2]) ∧ w' = w := by
  obtain ⟨a, cap, hv, hc⟩ := h.fform
  have f2 := h.f2
  rw [hv] at f2
  clear h hv
  by_cases h1 : k < 0
  · have e : fto rs k = (0, 72) := if_pos (.inl h1)
    rw [e]; clear e
    go_enter Try.func10, Try.ntmps10
    go_wp2
    refine bodyPost_ret (v := .tuple #[.int .i64 0, .int .i64 72]) (by simp [results, Try.f10, go_sem]) rfl ⟨rfl, rfl⟩
  · by_cases h2 : (rs.length : Int) ≤ k
    · have e : fto rs k = (0, 72) := if_pos (.inr h2)
      rw [e]; clear e
      go_enter Try.func10, Try.ntmps10
      go_wp2
      refine bodyPost_ret (v := .tuple #[.int .i64 0, .int .i64 72]) (by simp [results, Try.f10, go_sem]) rfl ⟨rfl, rfl⟩
    · obtain ⟨j, rfl⟩ : ∃ j : Nat, k = (j : Int) := ⟨k.toNat, by omega⟩
      obtain ⟨r, hr⟩ : ∃ r, rs[j]? = some r := ⟨rs[j]'(by omega), by simp⟩
      have e : fto rs (j : Int) = ((r.fate : Int), 0) := by unfold fto; rw [if_neg (by omega)]; simp [hr]
      rw [e]; clear e
      obtain ⟨g, rfl, _, c, _⟩ := hc j r hr
      have h3 : (j : Int) < (rs.length : Int) := by omega
      have h4 : (0 : Int) ≤ (j : Int) := by omega
      clear hc hr h1 h2
      go_enter Try.func10, Try.ntmps10
      go_wp2
      refine bodyPost_ret (v := .tuple #[.int .i64 (r.fate : Int), .int .i64 0]) (by simp [results, Try.f10, go_sem]) rfl ⟨rfl, rfl⟩

/-- The value of an entry that may be none. -/
def evo : Option En → Value
  | some e => ev e
  | none => ev0
def fnd (rs : List Rd) (k : Int) : Option En := (pl (es rs) k).bind fun p => (es rs)[p]?
def atp (rs : List Rd) (k : Int) : Option En := if k < 0 ∨ ((es rs).length : Int) ≤ k then none else (es rs)[k.toNat]?
def erz (n : Int) : Option En → Int
  | some _ => 0
  | none => n
set_option maxHeartbeats 1600000 in
set_option maxRecDepth 1000000 in
theorem at_any {w : World} {T : Tk} {rs : List Rd} (h : TV w T rs) (k : Int) : Calls Try.prog 27 #[.pointer (some ⟨T.tb, 0, none⟩), .int .i64 k] w fun e w' => e = .returned (.tuple #[evo (atp rs k), .int .i64 (erz 72 (atp rs k))]) ∧ Keeps (fun _ => False) w w' := by
  obtain ⟨a, cap, hv, hc⟩ := h.eform
  have f0 := h.f0
  rw [hv] at f0
  have lt := h.tlt
  clear h hv
  by_cases h1 : k < 0
  · have e : atp rs k = none := if_pos (.inl h1)
    rw [e]; clear e
    go_enter Try.func27, Try.ntmps27
    go_wp2
    refine bodyPost_ret (v := .tuple #[ev0, .int .i64 72]) (by rw [results_cell_tmp rfl]; go_simp; rfl) rfl ⟨rfl, ?_⟩
    exact ((Keeps.refl _ w).alloc _)
  · by_cases h2 : ((es rs).length : Int) ≤ k
    · have e : atp rs k = none := if_pos (.inr h2)
      rw [e]; clear e
      go_enter Try.func27, Try.ntmps27
      go_wp2
      refine bodyPost_ret (v := .tuple #[ev0, .int .i64 72]) (by rw [results_cell_tmp rfl]; go_simp; rfl) rfl ⟨rfl, ?_⟩
      exact ((Keeps.refl _ w).alloc _)
    · obtain ⟨j, rfl⟩ : ∃ j : Nat, k = (j : Int) := ⟨k.toNat, by omega⟩
      obtain ⟨r, hr⟩ : ∃ r, (es rs)[j]? = some r := ⟨(es rs)[j]'(by omega), by simp⟩
      have e : atp rs (j : Int) = some r := by unfold atp; rw [if_neg (by omega)]; simp [hr]
      rw [e]; clear e
      obtain ⟨g, rfl, _, c⟩ := hc j r hr
      have c0 := fun ob => (c.keep ((Keeps.refl (fun _ => False) w).alloc ob) (fun e => e)).r0
      have c1 := fun ob => (c.keep ((Keeps.refl (fun _ => False) w).alloc ob) (fun e => e)).r1
      have c2 := fun ob => (c.keep ((Keeps.refl (fun _ => False) w).alloc ob) (fun e => e)).r2
      have h3 : (j : Int) < ((es rs).length : Int) := by omega
      have h4 : (0 : Int) ≤ (j : Int) := by omega
      clear hc hr h1 h2 c
      go_enter Try.func27, Try.ntmps27
      go_wp2
      refine bodyPost_ret (v := .tuple #[ev r, .int .i64 0]) (by rw [results_cell_tmp rfl]; go_simp; rfl) rfl ⟨rfl, ?_⟩
      exact ((Keeps.refl _ w).alloc _)

set_option maxHeartbeats 1600000 in
set_option maxRecDepth 1000000 in
theorem find_any {w : World} {T : Tk} {rs : List Rd} (h : TV w T rs) {k : Int} (hk : I64 k) : Calls Try.prog 26 #[.pointer (some ⟨T.tb, 0, none⟩), .int .i64 k] w fun e w' => e = .returned (.tuple #[evo (fnd rs k), .int .i64 (erz 71 (fnd rs k))]) ∧ Keeps (fun _ => False) w w' := by
  obtain ⟨a, cap, hv, hc⟩ := h.eform
  have f0 := h.f0
  rw [hv] at f0
  have f1 := h.f1
  have lt := h.tlt
  have hl := fun ob => h.look hk ((Keeps.refl (fun _ => False) w).alloc ob)
  clear h hv
  cases hp : pl (es rs) k with
  | none =>
    have e : fnd rs k = none := by unfold fnd; rw [hp]; rfl
    rw [e]
    rw [hp] at hl
    simp only [Option.getD_none, Option.isSome_none] at hl
    clear e hp hc
    go_enter Try.func26, Try.ntmps26
    go_wp2
    refine bodyPost_ret (v := .tuple #[ev0, .int .i64 71]) (by rw [results_cell_tmp rfl]; go_simp; rfl) rfl ⟨rfl, ?_⟩
    exact ((Keeps.refl _ w).alloc _)
  | some j =>
    obtain ⟨r, hr, -⟩ := pl_some hp
    have e : fnd rs k = some r := by unfold fnd; rw [hp]; exact hr
    rw [e]
    rw [hp] at hl
    simp only [Option.getD_some, Option.isSome_some] at hl
    obtain ⟨g, rfl, _, c⟩ := hc j r hr
    have c0 := fun ob => (c.keep ((Keeps.refl (fun _ => False) w).alloc ob) (fun e => e)).r0
    have c1 := fun ob => (c.keep ((Keeps.refl (fun _ => False) w).alloc ob) (fun e => e)).r1
    have c2 := fun ob => (c.keep ((Keeps.refl (fun _ => False) w).alloc ob) (fun e => e)).r2
    have h3 : (j : Int) < ((es rs).length : Int) := by have := (List.getElem?_eq_some_iff.1 hr).1; omega
    have h4 : (0 : Int) ≤ (j : Int) := by omega
    clear hc hr hp e c
    go_enter Try.func26, Try.ntmps26
    go_wp2
    refine bodyPost_ret (v := .tuple #[ev r, .int .i64 0]) (by rw [results_cell_tmp rfl]; go_simp; rfl) rfl ⟨rfl, ?_⟩
    exact ((Keeps.refl _ w).alloc _)
end Go.Proofs.Ytagplkgjdaojnaa
