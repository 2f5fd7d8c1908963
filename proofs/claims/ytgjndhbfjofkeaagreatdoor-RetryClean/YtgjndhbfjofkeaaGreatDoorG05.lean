import Derived.Test.YtgjndhbfjofkeaaGreatDoorG01
import Derived.Test.YtgjndhbfjofkeaaGreatDoorG04
import Derived.Maps.AppendAt
import Derived.Deep.AppendSrc
import Derived.IntWalk
import Derived.Laws.OwnMore
import Derived.WalkKit
import Derived.ProofKit
import Derived.Laws.BitsAllLaws
import Derived.Laws.Bits64
import Derived.Test.YtgjndhbfjofkeaaGreatDoorRows
import Derived.OpenShut
import Derived.WalkLawsBesides
import Derived.Deep.QuietTactic
import Derived.BigQuiet
import Derived.Laws.CopyOwn
import Derived.Laws.IdiomCopy
import Derived.Laws.CopyRow
import Derived.Deep.OwnRows
namespace Go.Proofs.YtgjndhbfjofkeaaGreatDoor.TB
open Go.RowKit
attribute [local go_sem] Oper.semAt_some
structure Tk where
  tb : Nat
  ve : Value
  vm : Option Nat
  vf : Value
def Tk.Blk (T : Tk) (k : Nat) : Prop := k = T.tb ∨ T.ve.ownBlock = some k ∨ T.vm = some k ∨ T.vf.ownBlock = some k
def ecells (e : En) : List Value := [.int .i64 e.ob, .int .i64 e.ver, .int .i64 (e.ord : Int)]
theorem ecells_len (e : En) : (ecells e).length = 3 := rfl
def ev (e : En) : Value := .agg #[.int .i64 e.ob, .int .i64 e.ver, .int .i64 (e.ord : Int)]
def ev0 : Value := .agg #[.int .i64 0, .int .i64 0, .int .i64 0]
def fcells (rs : List Rd) : List Value := rs.map fun r => .int .i64 (r.fate : Int)
structure TV (w : World) (T : Tk) (rs : List Rd) : Prop where
  f0 : w.cell? ⟨T.tb, 11, none⟩ = some T.ve
  f1 : w.cell? ⟨T.tb, 12, none⟩ = some (.map T.vm)
  f2 : w.cell? ⟨T.tb, 13, none⟩ = some T.vf
  z : ∀ o, o < 36 → w.frozen? ⟨T.tb, o, none⟩ = false
  re : w.ownsRow 0 141 3 T.ve (es rs).length (fl ecells (es rs))
  rf : w.ownsRow 0 218 1 T.vf rs.length (fcells rs)
  mp : (T.vm = none ∧ rs = []) ∨ ∃ mb, T.vm = some mb ∧ OM w mb (es rs).length (pl (es rs))
  gd : Gd rs
  n1 : T.ve.ownBlock ≠ some T.tb
  n2 : T.vf.ownBlock ≠ some T.tb
  n3 : ∀ g, T.ve.ownBlock = some g → T.vf.ownBlock ≠ some g
  n4 : T.vm ≠ some T.tb
  n5 : ∀ g, T.vm = some g → T.ve.ownBlock ≠ some g ∧ T.vf.ownBlock ≠ some g
section
variable {w w' : World} {T : Tk} {rs : List Rd}
theorem TV.lt (h : TV w T rs) {k : Nat} (hk : T.Blk k) : k < w.heap.size := by
  rcases hk with rfl | hk | hk | hk
  · exact World.block_lt_of_cell? _ _ h.f0
  · exact owns_lt' h.re k hk
  · rcases h.mp with ⟨e, _⟩ | ⟨mb, e, hm⟩
    · rw [e] at hk; cases hk
    · rw [e] at hk; cases hk; exact hm.lt
  · exact owns_lt' h.rf k hk
theorem TV.tlt (h : TV w T rs) : T.tb < w.heap.size := h.lt (.inl rfl)
theorem TV.keep (h : TV w T rs) {S : Nat → Prop} (k : Keeps S w w') (hS : ∀ i, T.Blk i → ¬ S i) : TV w' T rs := by
  have ht := hS T.tb (.inl rfl)
  refine ⟨k.cell h.f0 ht, k.cell h.f1 ht, k.cell h.f2 ht, fun o ho => (k.frozen (p := ⟨T.tb, o, none⟩) h.tlt ht).trans (h.z o ho), k.owns h.re (fun g e => hS g (.inr (.inl e))), k.owns h.rf (fun g e => hS g (.inr (.inr (.inr e)))), ?_, h.gd, h.n1, h.n2, h.n3, h.n4, h.n5⟩
  rcases h.mp with e | ⟨mb, e, hm⟩
  · exact .inl e
  · exact .inr ⟨mb, e, hm.keep k (hS mb (.inr (.inr (.inl e))))⟩
theorem TV.new (h : TV w T rs) (k : Keeps (fun _ => False) w w') : TV w' T rs := h.keep k (fun _ _ e => e)
structure EnAt (w : World) (g o : Nat) (e : En) : Prop where
  r0 : w.cell? ⟨g, o, none⟩ = some (.int .i64 e.ob)
  r1 : w.cell? ⟨g, o + 1, none⟩ = some (.int .i64 e.ver)
  r2 : w.cell? ⟨g, o + 2, none⟩ = some (.int .i64 (e.ord : Int))
theorem EnAt.keep {g o : Nat} {e : En} (h : EnAt w g o e) {S : Nat → Prop} (k : Keeps S w w') (hg : ¬ S g) : EnAt w' g o e := ⟨k.cell h.r0 hg, k.cell h.r1 hg, k.cell h.r2 hg⟩
theorem owns_en {base ty n : Nat} {v : Value} {l : List En} (h : w.ownsRow base ty 3 v n (fl ecells l)) {g : Nat} (hg : v.ownBlock = some g) {p : Nat} {e : En} (he : l[p]? = some e) : EnAt w g (p * 3) e := by
  have q : ∀ j, j < 3 → (fl ecells l)[p * 3 + j]? = (ecells e)[j]? := fun j hj => by have := fl_get ecells_len l p j hj; rw [he] at this; exact this
  exact ⟨owns_cell h hg (q 0 (by omega)), owns_cell h hg (q 1 (by omega)), owns_cell h hg (q 2 (by omega))⟩
theorem TV.eform (h : TV w T rs) : ∃ a cap, T.ve = .slice a (es rs).length cap ∧ ∀ p e, (es rs)[p]? = some e → ∃ g, a = some ⟨g, 0, none⟩ ∧ T.ve.ownBlock = some g ∧ EnAt w g (p * 3) e := by
  obtain ⟨a, cap, hv, hg⟩ := owns_form h.re
  refine ⟨a, cap, hv, fun p e he => ?_⟩
  obtain ⟨g, e1, e2⟩ := hg (by have := (List.getElem?_eq_some_iff.1 he).1; omega)
  exact ⟨g, e1, e2, owns_en h.re e2 he⟩
theorem TV.fform (h : TV w T rs) : ∃ a cap, T.vf = .slice a rs.length cap ∧ ∀ j r, rs[j]? = some r → ∃ g, a = some ⟨g, 0, none⟩ ∧ T.vf.ownBlock = some g ∧ w.cell? ⟨g, j, none⟩ = some (.int .i64 (r.fate : Int)) ∧ w.frozen? ⟨g, j, none⟩ = false := by
  obtain ⟨a, cap, hv, hg⟩ := owns_form h.rf
  refine ⟨a, cap, hv, fun j r hr => ?_⟩
  obtain ⟨g, e1, e2⟩ := hg (by have := (List.getElem?_eq_some_iff.1 hr).1; omega)
  have ho := h.rf
  rw [hv, e1] at ho
  exact ⟨g, e1, e2, owns_cell h.rf e2 (by simp [fcells, hr]), ho.frozenAt j⟩
theorem TV.look (h : TV w T rs) {k : Int} (hk : I64 k) {w' : World} (K : Keeps (fun _ => False) w w') :
    (Instr.lookup 135 (.map T.vm) (.int .i64 k) true).run Tryz.prog w' = .ok (.tuple #[.int .i64 (((pl (es rs) k).getD 0 : Nat) : Int), .bool (pl (es rs) k).isSome]) w' := by
  rcases h.mp with ⟨e, rfl⟩ | ⟨mb, e, hm⟩
  · rw [e, look_nil hk]; rfl
  · rw [e, (hm.keep K (fun e => e)).look hk]
end
def fto (rs : List Rd) (k : Int) : Int × Int := if k < 0 ∨ (rs.length : Int) ≤ k then (0, 72) else (((rs[k.toNat]?).map Rd.fate).getD 0, 0)
def evo : Option En → Value
  | some e => ev e
  | none => ev0
def fnd (rs : List Rd) (k : Int) : Option En := (pl (es rs) k).bind fun p => (es rs)[p]?
def atp (rs : List Rd) (k : Int) : Option En := if k < 0 ∨ ((es rs).length : Int) ≤ k then none else (es rs)[k.toNat]?
def erz (n : Int) : Option En → Int
  | some _ => 0
  | none => n
set_option maxHeartbeats 1600000 in
set_option maxRecDepth 1000000 in
theorem at_any {w : World} {T : Tk} {rs : List Rd} (h : TV w T rs) (k : Int) : Calls Tryz.prog 115 #[.pointer (some ⟨T.tb, 11, none⟩), .int .i64 k] w fun e w' => e = .returned (.tuple #[evo (atp rs k), .int .i64 (erz 72 (atp rs k))]) ∧ Keeps (fun _ => False) w w' := by
  obtain ⟨a, cap, hv, hc⟩ := h.eform
  have f0 := h.f0
  rw [hv] at f0
  have lt := h.tlt
  clear h hv
  by_cases h1 : k < 0
  · have e : atp rs k = none := if_pos (.inl h1)
    rw [e]; clear e
    go_enter Tryz.func115, Tryz.ntmps115
    go_wp2
    refine bodyPost_ret (v := .tuple #[ev0, .int .i64 72]) (by rw [results_cell_tmp rfl]; go_simp; rfl) rfl ⟨rfl, ?_⟩
    exact ((Keeps.refl _ w).alloc _)
  · by_cases h2 : ((es rs).length : Int) ≤ k
    · have e : atp rs k = none := if_pos (.inr h2)
      rw [e]; clear e
      go_enter Tryz.func115, Tryz.ntmps115
      go_wp2
      refine bodyPost_ret (v := .tuple #[ev0, .int .i64 72]) (by rw [results_cell_tmp rfl]; go_simp; rfl) rfl ⟨rfl, ?_⟩
      exact ((Keeps.refl _ w).alloc _)
    · obtain ⟨j, rfl⟩ : ∃ j : Nat, k = (j : Int) := ⟨k.toNat, by omega⟩
      obtain ⟨r, hr⟩ : ∃ r, (es rs)[j]? = some r := ⟨(es rs)[j]'(by omega), by simp⟩
      have e : atp rs (j : Int) = some r := by unfold atp; rw [if_neg (by omega)]; simp [hr]
      rw [e]; clear e
      obtain ⟨g, rfl, _, c⟩ := hc j r hr
      have c0 := fun ob => (c.keep ((Keeps.refl (fun _ => False) w).alloc ob) (fun e => e)).r0
      have c1 := fun ob => (c.keep ((Keeps.refl (fun _ => False) w).alloc ob) (fun e => e)).r1
      have c2 := fun ob => (c.keep ((Keeps.refl (fun _ => False) w).alloc ob) (fun e => e)).r2
      have h3 : (j : Int) < ((es rs).length : Int) := by omega
      have h4 : (0 : Int) ≤ (j : Int) := by omega
      clear hc hr h1 h2 c
      go_enter Tryz.func115, Tryz.ntmps115
      go_wp2
      refine bodyPost_ret (v := .tuple #[ev r, .int .i64 0]) (by rw [results_cell_tmp rfl]; go_simp; rfl) rfl ⟨rfl, ?_⟩
      exact ((Keeps.refl _ w).alloc _)
set_option maxHeartbeats 1600000 in
set_option maxRecDepth 1000000 in
theorem find_any {w : World} {T : Tk} {rs : List Rd} (h : TV w T rs) {k : Int} (hk : I64 k) : Calls Tryz.prog 83 #[.pointer (some ⟨T.tb, 11, none⟩), .int .i64 k] w fun e w' => e = .returned (.tuple #[evo (fnd rs k), .int .i64 (erz 71 (fnd rs k))]) ∧ Keeps (fun _ => False) w w' := by
  obtain ⟨a, cap, hv, hc⟩ := h.eform
  have f0 := h.f0
  rw [hv] at f0
  have f1 := h.f1
  have lt := h.tlt
  have hl := fun ob => h.look hk ((Keeps.refl (fun _ => False) w).alloc ob)
  clear h hv
  cases hp : pl (es rs) k with
  | none =>
    have e : fnd rs k = none := by unfold fnd; rw [hp]; rfl
    rw [e]
    rw [hp] at hl
    simp only [Option.getD_none, Option.isSome_none] at hl
    clear e hp hc
    go_enter Tryz.func83, Tryz.ntmps83
    go_wp2
    refine bodyPost_ret (v := .tuple #[ev0, .int .i64 71]) (by rw [results_cell_tmp rfl]; go_simp; rfl) rfl ⟨rfl, ?_⟩
    exact ((Keeps.refl _ w).alloc _)
  | some j =>
    obtain ⟨r, hr, -⟩ := pl_some hp
    have e : fnd rs k = some r := by unfold fnd; rw [hp]; exact hr
    rw [e]
    rw [hp] at hl
    simp only [Option.getD_some, Option.isSome_some] at hl
    obtain ⟨g, rfl, _, c⟩ := hc j r hr
    have c0 := fun ob => (c.keep ((Keeps.refl (fun _ => False) w).alloc ob) (fun e => e)).r0
    have c1 := fun ob => (c.keep ((Keeps.refl (fun _ => False) w).alloc ob) (fun e => e)).r1
    have c2 := fun ob => (c.keep ((Keeps.refl (fun _ => False) w).alloc ob) (fun e => e)).r2
    have h3 : (j : Int) < ((es rs).length : Int) := by have := (List.getElem?_eq_some_iff.1 hr).1; omega
    have h4 : (0 : Int) ≤ (j : Int) := by omega
    clear hc hr hp e c
    go_enter Tryz.func83, Tryz.ntmps83
    go_wp2
    refine bodyPost_ret (v := .tuple #[ev r, .int .i64 0]) (by rw [results_cell_tmp rfl]; go_simp; rfl) rfl ⟨rfl, ?_⟩
    exact ((Keeps.refl _ w).alloc _)
end Go.Proofs.YtgjndhbfjofkeaaGreatDoor.TB

namespace Go.Proofs.YtgjndhbfjofkeaaGreatDoor.TB
open Go.RowKit
attribute [local go_sem] Oper.semAt_some
theorem wpList_append_run {P : Program} {w : World} {ops : Array Oper} {rest : List Oper} {o : Oper} {a : Act} {Q : Exit → Act → World → Prop} (hgd : o.guard = none) (s x : Operand) (t : TypeId)
    (ho : o.op = .call { callee := .builtin .append, args := #[s, x], argTypes := #[t, t] }) (v src v' : Value) (w' : World) (hs : a.eval s = v) (hx : a.eval x = src)
    (hr : (Builtin.append_ #[t, t] o.type #[v, src]).run P w = .ok v' w') (h : wpList P ops Q rest (a.put o.dst v') w') : wpList P ops Q (o :: rest) a w :=
  wpList_plain hgd fun K hK => by
    unfold Oper.wp execOp
    simp only [ho, resolve, invoke, builtin, Sem.run_bind, Sem.run_pure, Result.andThen_ok, List.map_toArray, List.map_cons, List.map_nil, hs, hx, hr]
    exact hK _ _ h
theorem infoE : (Tryz.prog.info? 141).map (fun i => (i.zero, i.size, i.bytes)) = some (some (.agg #[.int .i64 0, .int .i64 0, .int .i64 0]), 3, 24) := by kernel_rfl
theorem underE : Tryz.prog.underlying 134 = some (.slice 141) := by kernel_rfl
theorem infoF : (Tryz.prog.info? 218).map (fun i => (i.zero, i.size, i.bytes)) = some (some (.int .i64 0), 1, 8) := by kernel_rfl
theorem underF : Tryz.prog.underlying 136 = some (.slice 218) := by kernel_rfl
theorem ecells_one (l : List En) : ∀ u ∈ fl ecells l, u.oneCell' = true := fun u hu => by
  obtain ⟨e, _, h⟩ := List.mem_flatMap.1 hu
  simp [ecells] at h
  rcases h with rfl | rfl | rfl <;> rfl
theorem es_len (rs : List Rd) : (es rs).length ≤ rs.length := ents_len rs 0
end Go.Proofs.YtgjndhbfjofkeaaGreatDoor.TB

namespace Go.Proofs.YtgjndhbfjofkeaaGreatDoor
open Go.RowKit
def six (b : Int) : Nat := (b % 64).toNat
def ap (op a b : Int) : Int :=
  if op = 1 then wrap64 (a + b) else if op = 2 then wrap64 (a - b) else if op = 3 then wrap64 (a * b)
  else if op = 4 then (if b = 0 then 0 else wrap64 (a.tdiv b))
  else if op = 5 then (if b = 0 then a else a.tmod b)
  else if op = 6 then bits .and .i64 a b else if op = 7 then bits .or .i64 a b else if op = 8 then bits .xor .i64 a b
  else if op = 9 then wrap64 (a * 2 ^ six b) else if op = 10 then a / 2 ^ six b
  else if op = 11 then (if b < a then b else a) else if op = 12 then (if a < b then b else a) else 0
def Kept (B : Nat) (W w : World) : Prop := Below B W w ∧ B ≤ w.heap.size
theorem Kept.step {B : Nat} {W w w' : World} (h : Kept B W w) (k : Below w.heap.size w w') : Kept B W w' :=
  ⟨h.1.trans (k.mono h.2), Nat.le_trans h.2 k.size⟩
theorem Kept.start (w : World) (o : Obj) : Kept (w.heap.size + 1) (w.alloc o) (w.alloc o) := ⟨Below.refl _ _, by simp⟩
theorem Kept.cell {B : Nat} {W w : World} (h : Kept B W w) {p : Addr} (hp : p.block < B) : w.cell? p = W.cell? p := h.1.cell hp
theorem Kept.below {B : Nat} {W w : World} (h : Kept B W w) : Below B W w := h.1
end Go.Proofs.YtgjndhbfjofkeaaGreatDoor

namespace Go.Proofs.YtgjndhbfjofkeaaGreatDoor
open Go.RowKit
def In64 (a : Int) : Prop := -9223372036854775808 ≤ a ∧ a ≤ 9223372036854775807
theorem in64_of_wf {a : Int} (h : (Lit.int .i64 a).wf = true) : In64 a := by
  simp [Lit.wf, IntKind.min, IntKind.max, IntKind.signed, IntKind.bits] at h
  unfold In64; omega
theorem wrap_in (n : Int) : In64 (wrap64 n) := by unfold In64 wrap64; omega
theorem wrap_id {n : Int} (h : In64 n) : wrap64 n = n := by unfold In64 at h; unfold wrap64; omega
end Go.Proofs.YtgjndhbfjofkeaaGreatDoor

namespace Go.Proofs.YtgjndhbfjofkeaaGreatDoor
open Go.ChangeShapes Go.WideShapes Go.ChangeAt Go.RowKit
structure IsDr (w : World) (b r : Nat) (n : Nat) (x : Nat → Int) (k : Nat) : Prop where
  row : w.cell? ⟨b, 0, none⟩ = some (.slice (some ⟨r, 0, none⟩) n n)
  taken : w.cell? ⟨b, 1, none⟩ = some (.int .i64 (k : Int))
  free : w.frozen? ⟨b, 1, none⟩ = false
  nums : ∀ i, i < n → w.cell? ⟨r, i, none⟩ = some (.int .i64 (x i))
  le : k ≤ n
  small : n ≤ 140737488351232
theorem left_any {w : World} {b r n k : Nat} {x : Nat → Int} (h : IsDr w b r n x k) :
    Calls Tryz.prog 26 #[.pointer (some ⟨b, 0, none⟩)] w fun e w' => e = .returned (.int .i64 ((n : Int) - (k : Int))) ∧ ∃ m, w' = w.drewN m := by
  have h1 := h.taken
  have h2 := h.row
  have h3 := h.le
  have h4 := h.small
  clear h
  go_enter Tryz.func26, Tryz.ntmps26
  go_wp2
  go_quiet (fail)
  go_wp2
  go_ret
  exact ⟨rfl, _, rfl⟩
end Go.Proofs.YtgjndhbfjofkeaaGreatDoor

namespace Go.Proofs.YtgjndhbfjofkeaaGreatDoor
open Go.RowKit
def u (a : Int) : Nat := (a % 18446744073709551616).toNat
theorem ofInt_u (a : Int) : (BitVec.ofInt 64 a).toNat = u a := by
  rw [BitVec.toNat_ofInt]; rfl
theorem and_i64 (a b : Int) : bits .and .i64 a b = wrap64 ((u a &&& u b : Nat) : Int) := by
  show IntKind.i64.wrap ((BitVec.ofInt 64 a &&& BitVec.ofInt 64 b).toNat : Int) = _
  rw [BitVec.toNat_and, ofInt_u, ofInt_u, IntWalk.i64_left]
end Go.Proofs.YtgjndhbfjofkeaaGreatDoor

namespace Go.Proofs.YtgjndhbfjofkeaaGreatDoor
open Go.ChangeShapes Go.WideShapes Go.ChangeAt Go.RowKit
set_option maxHeartbeats 1000000 in
theorem next_some {w : World} {b r n k : Nat} {x : Nat → Int} (h : IsDr w b r n x k) (hk : k < n) :
    Calls Tryz.prog 163 #[.pointer (some ⟨b, 0, none⟩)] w fun e w' => e = .returned (.int .i64 (x k)) ∧ ∃ m, w' = (w.setCell ⟨b, 1, none⟩ (.int .i64 ((k : Int) + 1))).drewN m := by
  have H : Hid (IsDr w b r n x k) := h
  have h1 := h.taken
  have h2 := h.row
  have h3 := h.le
  have h4 := h.small
  have h5 := h.free
  have h6 := h.nums k hk
  have h7 : ((n : Int) - (k : Int) == 0) = false := by simp; omega
  clear h
  go_enter Tryz.func163, Tryz.ntmps163
  go_wp2_with (go_at_call 26; refine (left_any H.out).mono ?_; rintro e w1 ⟨rfl, m, rfl⟩)
  go_quiet (fail)
  go_wp2
  go_ret
  exact ⟨rfl, _, rfl⟩
theorem next_none {w : World} {b r n k : Nat} {x : Nat → Int} (h : IsDr w b r n x k) (hk : k = n) :
    Calls Tryz.prog 163 #[.pointer (some ⟨b, 0, none⟩)] w fun e w' => e = .returned (.int .i64 0) ∧ ∃ m, w' = w.drewN m := by
  have H : Hid (IsDr w b r n x k) := h
  have h7 : ((n : Int) - (k : Int) == 0) = true := by simp; omega
  clear h hk
  go_enter Tryz.func163, Tryz.ntmps163
  go_wp2_with (go_at_call 26; refine (left_any H.out).mono ?_; rintro e w1 ⟨rfl, m, rfl⟩)
  go_ret
  exact ⟨rfl, _, rfl⟩
end Go.Proofs.YtgjndhbfjofkeaaGreatDoor

namespace Go.Proofs.YtgjndhbfjofkeaaGreatDoor
open Go.ChangeShapes Go.WideShapes Go.ChangeAt Go.RowKit
def IsRaw (w : World) (a : Option Addr) (len : Nat) (x : Nat → Int) : Prop :=
  len = 0 ∨ ∃ b off, a = some ⟨b, off, none⟩ ∧ b < w.heap.size ∧ ∀ i, i < len → w.cell? ⟨b, off + i, none⟩ = some (.int .i64 (x i))
theorem IsRaw.step {w w' : World} {a : Option Addr} {len : Nat} {x : Nat → Int} (h : IsRaw w a len x) (hb : Below w.heap.size w w') : IsRaw w' a len x := by
  rcases h with h | ⟨b, off, e, hlt, hc⟩
  · exact .inl h
  · exact .inr ⟨b, off, e, Nat.lt_of_lt_of_le hlt hb.size, fun i hi => by rw [hb.cell (p := ⟨b, off + i, none⟩) hlt]; exact hc i hi⟩
theorem i64size : (Tryz.prog.info? 2).map (·.size) = some 1 := by kernel_rfl
theorem i64info : (Tryz.prog.info? 2).map (fun i => (i.zero, i.size, i.bytes)) = some (some (.int .i64 0), 1, 8) := by kernel_rfl
theorem add_at (b off n : Nat) : (⟨b, off, none⟩ : Addr).add n = ⟨b, off + n, none⟩ := by
  unfold Addr.add; split <;> simp_all
theorem cell_of_block {w : World} {b i : Nat} {c : Array Value} {t : TypeId} {fr : Nat × Nat} (h : w.heap[b]? = some (.cells c t fr)) : w.cell? ⟨b, i, none⟩ = c[i]? := by simp [World.cell?, h]
theorem alloc_cell (w : World) (c : Array Value) (t : TypeId) (i : Nat) : (w.alloc (.cells c t)).cell? ⟨w.heap.size, i, none⟩ = c[i]? := cell_of_block (MapKept.heap_alloc w _).1
theorem alloc_free (w : World) (c : Array Value) (t : TypeId) (i : Nat) : (w.alloc (.cells c t)).frozen? ⟨w.heap.size, i, none⟩ = false := by
  rw [frozen?_alloc_cells]; simp [World.frozen?]
theorem copy_raw {w : World} {a : Option Addr} {len cap : Nat} {x : Nat → Int} (h : IsRaw w a len x) :
    ∃ W2, (∀ ty, (Builtin.copy_ #[22, 22] ty #[.slice (some ⟨w.heap.size, 0, none⟩) len len, .slice a len cap]).run Tryz.prog (w.alloc (.cells (madeCells #[.int .i64 0] len) 2)) = .ok (goInt len) W2) ∧
      W2.heap.size = w.heap.size + 1 ∧ Below w.heap.size w W2 ∧ ∀ i, i < len → W2.cell? ⟨w.heap.size, i, none⟩ = some (.int .i64 (x i)) := by
  rcases h with h | ⟨b, off, rfl, hlt, hc⟩
  · subst h
    refine ⟨w.alloc (.cells (madeCells #[.int .i64 0] 0) 2), fun ty => ?_, by simp, (Below.refl _ _).alloc (Nat.le_refl _) _, fun i hi => absurd hi (by omega)⟩
    exact run_copy_none (P := Tryz.prog) _ _ _ ty 2 _ _ _ _ _ _ Tryz.underlying22 i64size rfl
  · have hg : (w.alloc (.cells (madeCells #[.int .i64 0] len) 2)).heap[w.heap.size]? = some (.cells (madeCells #[.int .i64 0] len) 2 (0, 0)) := (MapKept.heap_alloc w _).1
    obtain ⟨L, hlen, hget, hone⟩ : ∃ L : List Value, L.length = len ∧ (∀ i, i < len → L[i]? = some (.int .i64 (x i))) ∧ ∀ v ∈ L, v.oneCell' = true := by
      refine ⟨(List.range len).map fun i => Value.int .i64 (x i), by simp, fun i hi => by rw [List.getElem?_map, List.getElem?_range hi]; rfl, fun v hv => ?_⟩
      simp at hv
      obtain ⟨i, _, rfl⟩ := hv
      rfl
    have hrun := fun ty => run_copy_row (P := Tryz.prog) (w.alloc (.cells (madeCells #[.int .i64 0] len) 2)) 22 22 ty 2 w.heap.size 0 len len ⟨b, off, none⟩ len cap (madeCells #[.int .i64 0] len) 2 L
      Tryz.underlying22 i64size hg (by rw [hlen]; simp) (fun j v hj => by
        by_cases hjl : j < len
        · rw [hget j hjl] at hj
          rw [add_at, ((Below.refl _ w).alloc (Nat.le_refl _) _).cell (p := ⟨b, off + j, none⟩) hlt, hc j hjl, ← hj]
        · rw [List.getElem?_eq_none (by omega)] at hj
          simp at hj) (by rw [hlen, size_madeCells]; omega) hone
    refine ⟨_, fun ty => (hrun ty).trans (congrArg (fun n => Result.ok (goInt ((n : Nat) : Int)) _) hlen), ?_, ?_, fun i hi => ?_⟩
    · simp [World.setRow]
    · exact below_setRow ((Below.refl _ _).alloc (Nat.le_refl _) _) (Nat.le_refl _) _
    · rw [cell_of_block (setRow_heap _ w.heap.size (madeCells #[.int .i64 0] len) _ 2 (0, 0) hg)]
      have e : ((madeCells #[.int .i64 0] len).toList.take 0 ++ L ++ (madeCells #[.int .i64 0] len).toList.drop (0 + L.length)).toArray[i]? = L[i]? := by
        rw [List.getElem?_toArray, List.take_zero, List.nil_append, List.getElem?_append_left (by omega)]
      rw [e, hget i hi]
set_option maxHeartbeats 1000000 in
theorem newDraws_any {w : World} {a : Option Addr} {len cap : Nat} {x : Nat → Int} (h : IsRaw w a len x) (hl : len ≤ 17592186044416) :
    Calls Tryz.prog 54 #[.slice a len cap] w fun e w' => e = .returned (.pointer (some ⟨w.heap.size + 1, 0, none⟩)) ∧ w'.heap.size = w.heap.size + 2 ∧ IsDr w' (w.heap.size + 1) w.heap.size len x 0 ∧ Below w.heap.size w w' := by
  have hmk := fun W => run_make_row' (P := Tryz.prog) 22 2 (.int .i64 0) 8 Tryz.underlying22 i64info rfl .i64 .i64 len (by omega) (by omega) W
  obtain ⟨W2, hrun, hsz, hb, hc⟩ := copy_raw (cap := cap) h
  have HC : Hid (∀ i, i < len → W2.cell? ⟨w.heap.size, i, none⟩ = some (.int .i64 (x i))) := hc
  have HB : Hid (Below w.heap.size w W2) := hb
  have hrun' := hrun 3
  have HS : Hid (W2.heap.size = w.heap.size + 1) := hsz
  clear hc hb h hrun hsz
  go_enter Tryz.func54, Tryz.ntmps54
  go_wp2
  go_ret
  have hs := HS.out
  have hb2 : Below w.heap.size w (W2.alloc (.cells #[.slice (some ⟨w.heap.size, 0, none⟩) len len, .int .i64 0] 105)) := HB.out.alloc (by omega) _
  refine ⟨?_, ?_, ⟨?_, ?_, ?_, ?_, Nat.zero_le _, by omega⟩, hb2⟩
  · show Ending.returned (.pointer (some ⟨W2.heap.size, 0, none⟩)) = _
    rw [hs]
  · show (W2.heap.push _).size = _
    simp [hs]
  · rw [← hs]; exact alloc_cell W2 _ _ 0
  · rw [← hs]; exact alloc_cell W2 _ _ 1
  · rw [← hs]; exact alloc_free W2 _ _ 1
  · intro i hi
    rw [((Below.refl _ W2).alloc (Nat.le_refl _) _).cell (p := ⟨w.heap.size, i, none⟩) (show w.heap.size < W2.heap.size by omega)]
    exact HC.out i hi
end Go.Proofs.YtgjndhbfjofkeaaGreatDoor

namespace Go.Proofs.YtgjndhbfjofkeaaGreatDoor
open Go.RowKit Go.Deep Go.ChangeShapes Go.WideShapes Go.ChangeAt
attribute [local go_sem] Oper.semAt_some run_store_nf run_store_f
theorem IsRaw.keep {w w' : World} {a : Option Addr} {len : Nat} {x : Nat → Int} (h : IsRaw w a len x) (k : Keeps (fun _ => False) w w') : IsRaw w' a len x := by
  rcases h with h | ⟨b, off, e, hlt, hc⟩
  · exact .inl h
  · exact .inr ⟨b, off, e, Nat.lt_of_lt_of_le hlt k.size, fun i hi => k.cell (hc i hi) (fun e => e)⟩
theorem keeps_of_below {w w' : World} (h : Below w.heap.size w w') : Keeps (fun _ => False) w w' := ⟨h.os, h.tape, h.output, h.size, fun k hk _ => h.block k hk⟩
theorem oinfo : ∃ i, Tryz.prog.info? 2 = some i ∧ i.zero = some (.int .i64 0) ∧ i.size = 1 ∧ i.bytes = 8 := by
  have h := i64info
  cases hq : Tryz.prog.info? 2 with
  | none => rw [hq] at h; cases h
  | some i =>
    rw [hq] at h
    injection h with h
    injection h with h1 h2
    injection h2 with h2 h3
    exact ⟨i, rfl, h1, h2, h3⟩
theorem ou64 : Tryz.prog.underlying 22 = some (.slice 2) := by kernel_rfl
theorem oV : Tryz.prog.underlying 112 = some (.slice 34) := by kernel_rfl
theorem oV0 : (Tryz.prog.info? 34).map (fun i => (i.zero, i.size, i.bytes)) = some (some (.agg #[.int .i64 0, .int .i64 0, .bool false]), 3, 24) := by kernel_rfl
theorem oVi : ∃ i, Tryz.prog.info? 34 = some i ∧ i.zero = some (.agg #[.int .i64 0, .int .i64 0, .bool false]) ∧ i.size = 3 ∧ i.bytes = 24 := by
  have h := oV0
  cases hq : Tryz.prog.info? 34 with
  | none => rw [hq] at h; cases h
  | some i =>
    rw [hq] at h
    injection h with h
    injection h with h1 h2
    injection h2 with h2 h3
    exact ⟨i, rfl, h1, h2, h3⟩
def onums (z : Nat → Int) (n : Nat) : List Value := (List.range n).map fun i => .int .i64 (z i)
theorem onums_get {z : Nat → Int} {n j : Nat} {u : Value} (h : (onums z n)[j]? = some u) : j < n ∧ u = .int .i64 (z j) := by
  have hj : j < n := by have := (List.getElem?_eq_some_iff.1 h).1; simpa [onums] using this
  simp [onums, hj] at h
  exact ⟨hj, h.symm⟩
theorem append_o (w : World) {a : Option Addr} {m cap : Nat} {z : Nat → Int} (h : IsRaw (w.alloc (.cells #[] 2)) a m z) (hroom : m * 8 ≤ 140737488355328) :
    ∃ v' w', (Builtin.append_ #[22, 22] 22 #[.slice (some ⟨w.heap.size, 0, none⟩) 0 0, .slice a m cap]).run Tryz.prog (w.alloc (.cells #[] 2)) = .ok v' w' ∧ w'.ownsRow w.heap.size 2 1 v' m (onums z m) ∧ Keeps (fun _ => False) w w' := by
  obtain ⟨i0, hi0, hz0, hz1, hz2⟩ := oinfo
  have hown : (w.alloc (.cells #[] 2)).ownsRow w.heap.size 2 1 (.slice (some ⟨w.heap.size, 0, none⟩) 0 0) 0 [] := ⟨rfl, .inr ⟨w.heap.size, 0, #[], rfl, Nat.le_refl _, (MapKept.heap_alloc w _).1, Nat.le_refl _, Nat.zero_le _, rfl, rfl⟩⟩
  cases a with
  | none =>
    obtain rfl : m = 0 := by
      rcases h with h | ⟨b, off, e, _⟩
      · exact h
      · cases e
    have := run_append_room_src (P := Tryz.prog) (w.alloc (.cells #[] 2)) 22 22 22 2 i0 ou64 hi0 w.heap.size 0 0 0 (.slice none 0 cap) 0 [] (by rw [hz1]; exact Src.ofNil _ ou64 cap) (by omega) (fun j hj => by simp at hj) (fun j hj => by simp at hj)
    exact ⟨_, _, by simpa [World.setCells] using this, hown, (Keeps.refl _ w).alloc _⟩
  | some a =>
    obtain ⟨v', w', hr, ho, hg, _, _⟩ := run_append_own_at (P := Tryz.prog) (w := w.alloc (.cells #[] 2)) w.heap.size 22 22 2 i0 _ 1 8 ou64 hi0 hz0 hz1 hz2 rfl (by decide) (.slice (some ⟨w.heap.size, 0, none⟩) 0 0) 0 [] hown a m cap (onums z m) (by simp [onums]) (fun j u hu => by
      obtain ⟨hj, rfl⟩ := onums_get hu
      obtain ⟨b, off, e, hb, hc⟩ := h.resolve_left (by omega)
      cases e
      rw [add_at]
      exact hc j hj) (fun u hu => by
      obtain ⟨i, _, rfl⟩ := List.mem_map.1 hu
      rfl) (by unfold maxLen; omega) (by omega) (by simp)
    rw [Nat.zero_add, List.nil_append] at ho
    refine ⟨v', w', hr, ho, ((Keeps.refl _ w).alloc _).grown hg (fun i hi e => ?_)⟩
    simp [Value.ownBlock] at e
    omega
set_option maxHeartbeats 800000 in
set_option maxRecDepth 1000000 in
theorem numbers_any {w : World} {a : Option Addr} {n cap : Nat} {z : Nat → Int} (h : IsRaw w a n z) (hroom : n * 8 ≤ 140737488355328) :
    Calls Tryz.prog 55 #[.slice a n cap] w fun e w' => ∃ a' cap', e = .returned (.slice a' n cap') ∧ IsRaw w' a' n z ∧ Keeps (fun _ => False) w w' := by
  obtain ⟨v', w', hr, ho, hk⟩ := append_o w (cap := cap) (h.keep ((Keeps.refl _ w).alloc _)) hroom
  obtain ⟨a', cap', rfl, hg⟩ := TB.owns_form ho
  have hR : IsRaw w' a' n z := by
    rcases Nat.eq_zero_or_pos n with h0 | h0
    · exact .inl h0
    · obtain ⟨g, rfl, hg⟩ := hg h0
      exact .inr ⟨g, 0, rfl, owns_lt' ho g hg, fun i hi => by rw [Nat.zero_add]; exact TB.owns_cell ho hg (by simp [onums, hi])⟩
  have R : Hid (IsRaw w' a' n z) := hR
  have K : Hid (Keeps (fun _ => False) w w') := hk
  clear hR hk ho hg h
  go_enter Tryz.func55, Tryz.ntmps55
  go_wp2_with (refine TB.wpList_append_run rfl _ _ 22 rfl _ _ _ _ rfl rfl hr ?_)
  go_ret
  exact ⟨a', cap', rfl, R.out, K.out⟩
def ovc (q : Int) : List Value := [.int .i64 q, .int .i64 0, .bool false]
theorem append_v {W : World} {base k : Nat} {v : Value} {qs : List Int} (hown : W.ownsRow base 34 3 v k (TB.fl ovc qs)) (hb : base ≤ W.heap.size) (hk : k ≤ 100) (q : Int) :
    ∃ v' w', (Builtin.append_ #[112, 112] 112 #[v, .slice (some ⟨W.heap.size, 0, none⟩) 1 1]).run Tryz.prog (W.alloc (.cells #[.int .i64 q, .int .i64 0, .bool false] 34)) = .ok v' w' ∧ w'.ownsRow base 34 3 v' (k + 1) (TB.fl ovc (qs ++ [q])) ∧ Keeps (fun i => v.ownBlock = some i) W w' := by
  obtain ⟨i0, hi0, hz0, hz1, hz2⟩ := oVi
  obtain ⟨v', w', hr, ho, hg, _, _⟩ := run_append_own_at (P := Tryz.prog) (w := W.alloc (.cells #[.int .i64 q, .int .i64 0, .bool false] 34)) base 112 112 34 i0 _ 3 24 oV hi0 hz0 hz1 hz2 rfl (by decide) v k (TB.fl ovc qs) (((Keeps.refl (fun _ => False) W).alloc _).owns hown (fun _ _ e => e)) ⟨W.heap.size, 0, none⟩ 1 1 (ovc q) rfl (fun j u hu => by
      have hj : j < 3 := (List.getElem?_eq_some_iff.1 hu).1
      rw [add_at]
      rcases (by omega : j = 0 ∨ j = 1 ∨ j = 2) with rfl | rfl | rfl <;> (simp [ovc] at hu; subst hu; simp)) (fun u hu => by simp [ovc] at hu; rcases hu with rfl | rfl | rfl <;> rfl) (by unfold maxLen; omega) (by omega) (Nat.le_trans hb (by simp))
  refine ⟨v', w', hr, ?_, ((Keeps.refl _ W).alloc _).grown hg (fun i _ e => e)⟩
  rw [TB.fl_append]
  simpa [TB.fl] using ho
theorem owns_base {w : World} {base : Nat} {e : TypeId} {size : Nat} {v : Value} {n : Nat} {xs : List Value} (h : w.ownsRow base e size v n xs) (k : Nat) (hk : v.ownBlock = some k) : base ≤ k := by
  rcases h.2 with ⟨rfl, _⟩ | ⟨g, cap, cur, rfl, hb, hg, rest⟩
  · cases hk
  · cases hk; exact hb
set_option maxHeartbeats 1600000 in
set_option maxRecDepth 1000000 in
theorem values_any {w : World} {a : Option Addr} {n cap : Nat} {z : Nat → Int} (h : IsRaw w a n z) (h0 : 0 < n) (h8 : n ≤ 80) :
    Calls Tryz.prog 52 #[.slice a n cap] w fun e w' => ∃ b cap', e = .returned (.slice (some ⟨b, 0, none⟩) n cap') ∧ w.heap.size ≤ b ∧ (∀ i, i < n → w'.cell? ⟨b, i * 3, none⟩ = some (.int .i64 (z i)) ∧ w'.cell? ⟨b, i * 3 + 1, none⟩ = some (.int .i64 0) ∧ w'.cell? ⟨b, i * 3 + 2, none⟩ = some (.bool false)) ∧ Keeps (fun _ => False) w w' := by
  obtain ⟨b, off, rfl, hb, hc⟩ := h.resolve_left (by omega)
  go_enter Tryz.func52, Tryz.ntmps52
  go_wp2_with fail
  go_loopw [3, 8] (fun v iv W => ∃ k : Nat, k ≤ n ∧ iv = .int .i64 (k : Int) ∧ W.ownsRow w.heap.size 34 3 v k (TB.fl ovc ((List.range k).map z)) ∧ Keeps (fun _ => False) w W) (fun _ iv _ => n - (intOf iv).toNat)
  case atStart => exact ⟨0, Nat.zero_le _, rfl, World.ownsRow_nil _ _ _ _, Keeps.refl _ w⟩
  case round =>
    obtain ⟨k, hk, rfl, hown, kW⟩ := hrel
    by_cases hlt : k < n
    · have hltI : (k : Int) < (n : Int) := by omega
      have ck := kW.cell (hc k hlt) (fun e => e)
      obtain ⟨v', w', hr, ho, kk⟩ := append_v hown kW.size (by omega) (z k)
      have HO : Hid (w'.ownsRow w.heap.size 34 3 v' (k + 1) (TB.fl ovc ((List.range k).map z ++ [z k]))) := ho
      have K2 : Hid (Keeps (fun _ => False) w w') := kW.trans' kk (fun _ _ e => e) (fun i hi e => by have := owns_base hown i e; omega)
      clear ho kk hown
      go_wp2_with (refine TB.wpList_append_run rfl _ _ 112 rfl _ _ _ _ rfl rfl hr ?_)
      go_roundw
      case rel =>
        refine ⟨k + 1, by omega, by go_num, ?_, K2.out⟩
        have := HO.out
        rwa [List.range_succ, List.map_append]
      case measure => simp [intOf]; omega
    · obtain rfl : k = n := by omega
      obtain ⟨a', cap', rfl, hg⟩ := TB.owns_form hown
      obtain ⟨g, rfl, hg⟩ := hg h0
      have hltI : ¬ (k : Int) < (k : Int) := by omega
      have HO : Hid (wr.ownsRow w.heap.size 34 3 (.slice (some ⟨g, 0, none⟩) k cap') k (TB.fl ovc ((List.range k).map z))) := hown
      clear hown
      go_wp2_with fail
      go_ret
      have hown := HO.out
      refine ⟨g, ⟨cap', rfl⟩, owns_base hown g hg, fun i hi => ?_, kW⟩
      have cl := fun (j : Nat) (u : Value) (hj : j < 3) (e : (ovc (z i))[j]? = some u) => TB.owns_cell hown hg (j := i * 3 + j) (u := u) (by rw [TB.fl_get (n := 3) (fun _ => rfl) _ i j hj]; simp [hi, e])
      exact ⟨cl 0 _ (by decide) rfl, cl 1 _ (by decide) rfl, cl 2 _ (by decide) rfl⟩
end Go.Proofs.YtgjndhbfjofkeaaGreatDoor

namespace Go.Proofs.YtgjndhbfjofkeaaGreatDoor
open Go.RowKit
def Pat (p : Int) : Prop := 1 ≤ p ∧ p ≤ 4096
theorem isNone_no {w : World} {mb : Nat} {t : TypeId} {v : Value} (hm : w.cell? ⟨mb, 0, none⟩ = some (.iface t v)) : Calls Tryz.prog 45 #[.pointer (some ⟨mb, 0, none⟩)] w fun e w' => e = .returned (.bool false) ∧ w' = w := by
  go_enter Tryz.func45, Tryz.ntmps45
  go_wp2
  go_ret
  exact ⟨rfl, rfl⟩
def kt (k : Nat) : TypeId := match k with | 0 => 185 | 1 => 186 | 2 => 187 | 3 => 188 | _ => 190
def Mg (w : World) (b k : Nat) (p : Int) : Prop := k < 5 ∧ Pat p ∧ w.cell? ⟨b, 0, none⟩ = some (.iface (kt k) (.agg #[.int .i64 p]))
theorem Mg.keep {w w' : World} {b k : Nat} {p : Int} (h : Mg w b k p) (K : Keeps (fun _ => False) w w') : Mg w' b k p := ⟨h.1, h.2.1, K.cell h.2.2 id⟩
set_option maxHeartbeats 1600000 in
set_option maxRecDepth 1000000 in
theorem ruleOf0 (w : World) (p : Int) : Calls Tryz.prog 76 #[.int .i64 0, .int .i64 p] w fun e w' => e = .returned (.iface 185 (.agg #[.int .i64 p])) ∧ Keeps (fun _ => False) w w' := by
  go_enter Tryz.func76, Tryz.ntmps76
  go_wp2
  go_ret
  refine ⟨rfl, ?_⟩
  first | exact (Keeps.refl _ w).alloc _ | exact ((Keeps.refl _ w).alloc _).alloc _ | exact (((Keeps.refl _ w).alloc _).alloc _).alloc _
set_option maxHeartbeats 1600000 in
set_option maxRecDepth 1000000 in
theorem ruleOf1 (w : World) (p : Int) : Calls Tryz.prog 76 #[.int .i64 1, .int .i64 p] w fun e w' => e = .returned (.iface 186 (.agg #[.int .i64 p])) ∧ Keeps (fun _ => False) w w' := by
  go_enter Tryz.func76, Tryz.ntmps76
  go_wp2
  go_ret
  refine ⟨rfl, ?_⟩
  first | exact (Keeps.refl _ w).alloc _ | exact ((Keeps.refl _ w).alloc _).alloc _ | exact (((Keeps.refl _ w).alloc _).alloc _).alloc _
set_option maxHeartbeats 1600000 in
set_option maxRecDepth 1000000 in
theorem ruleOf2 (w : World) (p : Int) : Calls Tryz.prog 76 #[.int .i64 2, .int .i64 p] w fun e w' => e = .returned (.iface 187 (.agg #[.int .i64 p])) ∧ Keeps (fun _ => False) w w' := by
  go_enter Tryz.func76, Tryz.ntmps76
  go_wp2
  go_ret
  refine ⟨rfl, ?_⟩
  first | exact (Keeps.refl _ w).alloc _ | exact ((Keeps.refl _ w).alloc _).alloc _ | exact (((Keeps.refl _ w).alloc _).alloc _).alloc _
set_option maxHeartbeats 1600000 in
set_option maxRecDepth 1000000 in
theorem ruleOf3 (w : World) (p : Int) : Calls Tryz.prog 76 #[.int .i64 3, .int .i64 p] w fun e w' => e = .returned (.iface 188 (.agg #[.int .i64 p])) ∧ Keeps (fun _ => False) w w' := by
  go_enter Tryz.func76, Tryz.ntmps76
  go_wp2
  go_ret
  refine ⟨rfl, ?_⟩
  first | exact (Keeps.refl _ w).alloc _ | exact ((Keeps.refl _ w).alloc _).alloc _ | exact (((Keeps.refl _ w).alloc _).alloc _).alloc _
set_option maxHeartbeats 1600000 in
set_option maxRecDepth 1000000 in
theorem ruleOf4 (w : World) (p : Int) : Calls Tryz.prog 76 #[.int .i64 4, .int .i64 p] w fun e w' => e = .returned (.iface 190 (.agg #[.int .i64 p])) ∧ Keeps (fun _ => False) w w' := by
  go_enter Tryz.func76, Tryz.ntmps76
  go_wp2
  go_ret
  refine ⟨rfl, ?_⟩
  first | exact (Keeps.refl _ w).alloc _ | exact ((Keeps.refl _ w).alloc _).alloc _ | exact (((Keeps.refl _ w).alloc _).alloc _).alloc _
set_option maxHeartbeats 1600000 in
set_option maxRecDepth 1000000 in
theorem new0 (w : World) {p : Int} (hp : Pat p) : Calls Tryz.prog 53 #[.int .i64 0, .int .i64 p] w fun e w' => ∃ b, e = .returned (.tuple #[.pointer (some ⟨b, 0, none⟩), .int .i64 0]) ∧ w.heap.size ≤ b ∧ Mg w' b 0 p ∧ Keeps (fun _ => False) w w' := by
  have hr := ruleOf0 w p
  have h1 := hp.1
  have h2 := hp.2
  go_enter Tryz.func53, Tryz.ntmps53
  go_wp2_with (go_at_call 76; refine hr.mono ?_; rintro e w1 ⟨rfl, k1⟩; have := k1.size)
  go_ret2
  exact ⟨w1.heap.size, rfl, this, ⟨by omega, hp, by simp [kt]⟩, k1.alloc _⟩
set_option maxHeartbeats 1600000 in
set_option maxRecDepth 1000000 in
theorem new1 (w : World) {p : Int} (hp : Pat p) : Calls Tryz.prog 53 #[.int .i64 1, .int .i64 p] w fun e w' => ∃ b, e = .returned (.tuple #[.pointer (some ⟨b, 0, none⟩), .int .i64 0]) ∧ w.heap.size ≤ b ∧ Mg w' b 1 p ∧ Keeps (fun _ => False) w w' := by
  have hr := ruleOf1 w p
  have h1 := hp.1
  have h2 := hp.2
  go_enter Tryz.func53, Tryz.ntmps53
  go_wp2_with (go_at_call 76; refine hr.mono ?_; rintro e w1 ⟨rfl, k1⟩; have := k1.size)
  go_ret2
  exact ⟨w1.heap.size, rfl, this, ⟨by omega, hp, by simp [kt]⟩, k1.alloc _⟩
set_option maxHeartbeats 1600000 in
set_option maxRecDepth 1000000 in
theorem new2 (w : World) {p : Int} (hp : Pat p) : Calls Tryz.prog 53 #[.int .i64 2, .int .i64 p] w fun e w' => ∃ b, e = .returned (.tuple #[.pointer (some ⟨b, 0, none⟩), .int .i64 0]) ∧ w.heap.size ≤ b ∧ Mg w' b 2 p ∧ Keeps (fun _ => False) w w' := by
  have hr := ruleOf2 w p
  have h1 := hp.1
  have h2 := hp.2
  go_enter Tryz.func53, Tryz.ntmps53
  go_wp2_with (go_at_call 76; refine hr.mono ?_; rintro e w1 ⟨rfl, k1⟩; have := k1.size)
  go_ret2
  exact ⟨w1.heap.size, rfl, this, ⟨by omega, hp, by simp [kt]⟩, k1.alloc _⟩
set_option maxHeartbeats 1600000 in
set_option maxRecDepth 1000000 in
theorem new3 (w : World) {p : Int} (hp : Pat p) : Calls Tryz.prog 53 #[.int .i64 3, .int .i64 p] w fun e w' => ∃ b, e = .returned (.tuple #[.pointer (some ⟨b, 0, none⟩), .int .i64 0]) ∧ w.heap.size ≤ b ∧ Mg w' b 3 p ∧ Keeps (fun _ => False) w w' := by
  have hr := ruleOf3 w p
  have h1 := hp.1
  have h2 := hp.2
  go_enter Tryz.func53, Tryz.ntmps53
  go_wp2_with (go_at_call 76; refine hr.mono ?_; rintro e w1 ⟨rfl, k1⟩; have := k1.size)
  go_ret2
  exact ⟨w1.heap.size, rfl, this, ⟨by omega, hp, by simp [kt]⟩, k1.alloc _⟩
set_option maxHeartbeats 1600000 in
set_option maxRecDepth 1000000 in
theorem new4 (w : World) {p : Int} (hp : Pat p) : Calls Tryz.prog 53 #[.int .i64 4, .int .i64 p] w fun e w' => ∃ b, e = .returned (.tuple #[.pointer (some ⟨b, 0, none⟩), .int .i64 0]) ∧ w.heap.size ≤ b ∧ Mg w' b 4 p ∧ Keeps (fun _ => False) w w' := by
  have hr := ruleOf4 w p
  have h1 := hp.1
  have h2 := hp.2
  go_enter Tryz.func53, Tryz.ntmps53
  go_wp2_with (go_at_call 76; refine hr.mono ?_; rintro e w1 ⟨rfl, k1⟩; have := k1.size)
  go_ret2
  exact ⟨w1.heap.size, rfl, this, ⟨by omega, hp, by simp [kt]⟩, k1.alloc _⟩
set_option maxHeartbeats 1600000 in
set_option maxRecDepth 1000000 in
theorem mgr_new (w : World) {k : Nat} {p : Int} (hk : k < 5) (hp : Pat p) : Calls Tryz.prog 53 #[.int .i64 (k : Int), .int .i64 p] w fun e w' => ∃ b, e = .returned (.tuple #[.pointer (some ⟨b, 0, none⟩), .int .i64 0]) ∧ w.heap.size ≤ b ∧ Mg w' b k p ∧ Keeps (fun _ => False) w w' := by
  match k, hk with
  | 0, _ => exact new0 w hp
  | 1, _ => exact new1 w hp
  | 2, _ => exact new2 w hp
  | 3, _ => exact new3 w hp
  | 4, _ => exact new4 w hp
end Go.Proofs.YtgjndhbfjofkeaaGreatDoor

