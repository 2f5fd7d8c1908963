import Derived.WalkKit
import Derived.ProofKit
import Derived.Test.YthchbcfecconbaaGreatDoorRows
import Derived.Deep.AppendLies
import Derived.Deep.RegionHeld3
import Derived.Deep.RegionLaw
import Derived.Deep.LoopGhost
import Derived.BigRegion
import Derived.BigQuiet
import Derived.Below
import Derived.OpenShut
import Derived.WalkLawsBesides
import Derived.Recover
import Derived.Laws.NewBlocks
import Derived.Deep.MidRow
import Derived.Deep.RegionHeld
import Derived.Laws.StructEq
namespace Go.Proofs.YthchbcfecconbaaGreatDoor
open Go.RowKit
def I64 (a : Int) : Prop := -9223372036854775808 ≤ a ∧ a ≤ 9223372036854775807
theorem i64_of_wf {a : Int} (h : (Lit.int .i64 a).wf = true) : I64 a := by
  simp [Lit.wf, IntKind.min, IntKind.max, IntKind.signed, IntKind.bits] at h
  unfold I64; omega
structure Keeps (S : Nat → Prop) (w w' : World) : Prop where
  os : w'.os = w.os
  tape : w'.tape = w.tape
  output : w'.output = w.output
  size : w.heap.size ≤ w'.heap.size
  block : ∀ k, k < w.heap.size → ¬ S k → w'.heap[k]? = w.heap[k]?
theorem Keeps.refl (S : Nat → Prop) (w : World) : Keeps S w w := ⟨rfl, rfl, rfl, Nat.le_refl _, fun _ _ _ => rfl⟩
theorem Keeps.trans {S : Nat → Prop} {a b c : World} (h : Keeps S a b) (k : Keeps S b c) : Keeps S a c :=
  ⟨k.os.trans h.os, k.tape.trans h.tape, k.output.trans h.output, Nat.le_trans h.size k.size, fun i hi hs => (k.block i (Nat.lt_of_lt_of_le hi h.size) hs).trans (h.block i hi hs)⟩
theorem Keeps.trans' {S T U : Nat → Prop} {a b c : World} (h : Keeps S a b) (k : Keeps T b c) (hS : ∀ i, i < a.heap.size → S i → U i) (hT : ∀ i, i < a.heap.size → T i → U i) : Keeps U a c :=
  ⟨k.os.trans h.os, k.tape.trans h.tape, k.output.trans h.output, Nat.le_trans h.size k.size, fun i hi hs => (k.block i (Nat.lt_of_lt_of_le hi h.size) (fun t => hs (hT i hi t))).trans (h.block i hi (fun t => hs (hS i hi t)))⟩
theorem Keeps.mono {S T : Nat → Prop} {a b : World} (h : Keeps S a b) (hS : ∀ i, i < a.heap.size → S i → T i) : Keeps T a b :=
  ⟨h.os, h.tape, h.output, h.size, fun i hi hs => h.block i hi (fun t => hs (hS i hi t))⟩
theorem Keeps.alloc {S : Nat → Prop} {a b : World} (h : Keeps S a b) (o : Obj) : Keeps S a (b.alloc o) :=
  ⟨h.os, h.tape, h.output, Nat.le_trans h.size (by simp), fun i hi hs => (Below.heap_alloc b o i (Nat.lt_of_lt_of_le hi h.size)).trans (h.block i hi hs)⟩
theorem Keeps.drew {S : Nat → Prop} {a b : World} (h : Keeps S a b) : Keeps S a b.drew := ⟨h.os, h.tape, h.output, h.size, h.block⟩
theorem Keeps.drewN {S : Nat → Prop} {a b : World} (h : Keeps S a b) (n : Nat) : Keeps S a (b.drewN n) := ⟨h.os, h.tape, h.output, h.size, h.block⟩
theorem Keeps.grown {S : Nat → Prop} {a b c : World} {row : Option Nat} (h : Keeps S a b) (k : b.grownBy c row) (hr : ∀ i, i < a.heap.size → row = some i → S i) : Keeps S a c :=
  ⟨k.os.trans h.os, k.tape.trans h.tape, k.output.trans h.output, Nat.le_trans h.size k.size, fun i hi hs => (k.block i (Nat.lt_of_lt_of_le hi h.size) (fun e => hs (hr i hi e.symm))).trans (h.block i hi hs)⟩
theorem Keeps.setCell {S : Nat → Prop} {a b : World} (h : Keeps S a b) {p : Addr} (hp : p.block < a.heap.size → S p.block) (u : Value) : Keeps S a (b.setCell p u) :=
  ⟨h.os, h.tape, h.output, by simpa using h.size, fun i hi hs => (Below.heap_setCell b p u i (fun e => hs (e ▸ hp (e ▸ hi)))).trans (h.block i hi hs)⟩
theorem Keeps.below {S : Nat → Prop} {a b : World} (h : Keeps S a b) {B : Nat} (hB : B ≤ a.heap.size) (hS : ∀ i, i < B → ¬ S i) : Below B a b :=
  ⟨h.os, h.tape, h.output, h.size, fun i hi => h.block i (Nat.lt_of_lt_of_le hi hB) (hS i hi)⟩
theorem Keeps.cell {S : Nat → Prop} {a b : World} (h : Keeps S a b) {p : Addr} {v : Value} (hc : a.cell? p = some v) (hS : ¬ S p.block) : b.cell? p = some v :=
  (World.cell?_of_block (h.block p.block (World.block_lt_of_cell? a p hc) hS)).trans hc
theorem Keeps.frozen {S : Nat → Prop} {a b : World} (h : Keeps S a b) {p : Addr} (hl : p.block < a.heap.size) (hS : ¬ S p.block) : b.frozen? p = a.frozen? p :=
  World.frozen?_of_block (h.block p.block hl hS)
theorem owns_lt' {w : World} {base : Nat} {e : TypeId} {size : Nat} {v : Value} {n : Nat} {xs : List Value} (h : w.ownsRow base e size v n xs) (k : Nat) (hk : v.ownBlock = some k) : k < w.heap.size := by
  rcases h.2 with ⟨rfl, _⟩ | ⟨g, cap, cur, rfl, hb, hg, rest⟩
  · cases hk
  · cases hk
    rcases Nat.lt_or_ge g w.heap.size with hlt | hge
    · exact hlt
    · rw [Array.getElem?_eq_none hge] at hg; cases hg
theorem owns_same {w w' : World} {base : Nat} {e : TypeId} {size : Nat} {v : Value} {n : Nat} {xs : List Value} (h : w.ownsRow base e size v n xs) (hk : ∀ g, v.ownBlock = some g → w'.heap[g]? = w.heap[g]?) : w'.ownsRow base e size v n xs := by
  refine ⟨h.1, ?_⟩
  rcases h.2 with h0 | ⟨g, cap, cur, rfl, hb, hg, rest⟩
  · exact .inl h0
  · exact .inr ⟨g, cap, cur, rfl, hb, (hk g rfl).trans hg, rest⟩
theorem Keeps.owns {S : Nat → Prop} {a b : World} (h : Keeps S a b) {base : Nat} {e : TypeId} {size : Nat} {v : Value} {n : Nat} {xs : List Value} (ho : a.ownsRow base e size v n xs) (hS : ∀ g, v.ownBlock = some g → ¬ S g) : b.ownsRow base e size v n xs :=
  owns_same ho (fun g hg => h.block g (owns_lt' ho g hg) (hS g hg))
structure Left (w w' : World) (F F' : List Nat) : Prop where
  keeps : Keeps (fun k => k ∈ F) w w'
  old : ∀ k ∈ F', k ∈ F ∨ w.heap.size ≤ k
theorem Left.refl (w : World) (F : List Nat) : Left w w F F := ⟨Keeps.refl _ w, fun _ h => .inl h⟩
theorem Left.trans {w w' w'' : World} {F F' F'' : List Nat} (h : Left w w' F F') (k : Left w' w'' F' F'') : Left w w'' F F'' :=
  ⟨h.keeps.trans' k.keeps (fun _ _ e => e) (fun i hi e => (h.old i e).elim id (fun e' => by omega)),
   fun i hi => (k.old i hi).elim (h.old i) (fun e => .inr (by have := h.keeps.size; omega))⟩
theorem Left.new {w w' : World} {F : List Nat} (h : Keeps (fun _ => False) w w') : Left w w' F F := ⟨h.mono (fun _ _ e => e.elim), fun _ h => .inl h⟩
structure KS (w : World) where
  val : World
  property : Keeps (fun _ => False) w val
theorem wp_region_ks {P : Program} {id : Nat} {Q : Exit → Act → World → Prop} {a : Act} {w : World} {l : List Oper} (hm : P.follows .mixedOrders = true) (hB : Region.lexB .any l.toArray = true)
    (h : wpQuiet P l.toArray (fun w' => ∃ u : KS w, w' = u.1) (fun a' => ∀ w', (∃ u : KS w, w' = u.1) → Q .normal a' w') l a) : (Code.region id l.toArray true).wp P Q a w :=
  wp_region_quiet (C := fun w' => ∃ u : KS w, w' = u.1) hm hB ⟨⟨_, (Keeps.refl _ w).drew⟩, rfl⟩ (by simpa using h)
theorem ks_cell {w : World} {p : Addr} {v : Value} (h : w.cell? p = some v) : ∀ u : KS w, u.1.cell? p = some v := fun u => u.2.cell h (fun e => e)
end Go.Proofs.YthchbcfecconbaaGreatDoor

namespace Go.Proofs.YthchbcfecconbaaGreatDoor
open Go.RowKit
structure Ins where
  code : Int
  dst : Int
  oR : Bool
  oN : Int
  xR : Bool
  xN : Int
  yR : Bool
  yN : Int
  op : Int
  rel : Int
  to : Int
def ins0 : Ins := ⟨0, 0, false, 0, false, 0, false, 0, 0, 0, 0⟩
instance : Inhabited Ins := ⟨ins0⟩
def Ins.cells (q : Ins) : List Value := [.int .i64 q.code, .int .i64 q.dst, .bool q.oR, .int .i64 q.oN, .bool q.xR, .int .i64 q.xN, .bool q.yR, .int .i64 q.yN, .int .i64 q.op, .int .i64 q.rel, .int .i64 q.to]
def rg (n : Int) : Bool := decide (0 ≤ n) && decide (n < 16)
def opk (r : Bool) (n : Int) : Bool := !r || rg n
def btw (n lo hi : Int) (u : Bool) : Bool := if u then decide (lo ≤ n) && decide (n ≤ hi) else n == 0
def fts (r : Bool) (n : Int) (u : Bool) : Bool := if u then opk r n else !r && n == 0
def kdD (c : Int) : Bool := c == 1 || c == 2 || c == 5 || c == 6
def kdO (c : Int) : Bool := c == 1 || c == 2 || c == 3 || c == 4
def kdX (c : Int) : Bool := c == 3 || c == 5 || c == 6 || c == 7 || c == 10
def kdY (c : Int) : Bool := c == 6 || c == 7
def kdR (c : Int) : Bool := c == 7
def kdL (c : Int) : Bool := c == 7 || c == 8
def Ins.can (q : Ins) (n : Int) : Bool :=
  (decide (1 ≤ q.code) && decide (q.code ≤ 10)) && (btw q.dst 0 15 (kdD q.code) && btw q.rel 1 6 (kdR q.code) && btw q.to 0 n (kdL q.code) && btw q.op 1 12 (q.code == 6)) && (fts q.oR q.oN (kdO q.code) && fts q.xR q.xN (kdX q.code) && fts q.yR q.yN (kdY q.code))
section
variable (w : World)
theorem isReg_any (n : Int) : Calls Tryz.prog 68 #[.int .i64 n] w fun e w' => e = .returned (.bool (rg n)) ∧ w' = w := by
  unfold rg
  cases h1 : decide (0 ≤ n) <;> cases h2 : decide (n < 16) <;>
  (go_enter Tryz.func68, Tryz.ntmps68
   go_wp2
   go_ret
   exact ⟨rfl, rfl⟩)
theorem between_any (n lo hi : Int) (u : Bool) : Calls Tryz.prog 57 #[.int .i64 n, .int .i64 lo, .int .i64 hi, .bool u] w fun e w' => e = .returned (.bool (btw n lo hi u)) ∧ w' = w := by
  unfold btw
  cases u
  · go_enter Tryz.func57, Tryz.ntmps57
    go_wp2
    go_ret
    exact ⟨rfl, rfl⟩
  · cases h1 : decide (lo ≤ n) <;> cases h2 : decide (n ≤ hi) <;>
    (go_enter Tryz.func57, Tryz.ntmps57
     go_wp2
     go_ret
     exact ⟨rfl, rfl⟩)
theorem inBounds_any (r : Bool) (n : Int) : Calls Tryz.prog 69 #[.agg #[.bool r, .int .i64 n]] w fun e w' => e = .returned (.bool (opk r n)) ∧ Keeps (fun _ => False) w w' := by
  have k : Keeps (fun _ => False) w (w.alloc (.cells #[.bool r, .int .i64 n] 64)) := (Keeps.refl _ w).alloc _
  unfold opk
  cases r
  · go_enter Tryz.func69, Tryz.ntmps69
    go_wp2
    go_ret
    exact ⟨rfl, k⟩
  · go_enter Tryz.func69, Tryz.ntmps69
    go_wp2_with (go_at_call 68; refine (isReg_any _ _).mono ?_; rintro e w' ⟨rfl, rfl⟩)
    go_ret
    exact ⟨rfl, k⟩
theorem fits_any (r : Bool) (n : Int) (u : Bool) : Calls Tryz.prog 59 #[.agg #[.bool r, .int .i64 n], .bool u] w fun e w' => e = .returned (.bool (fts r n u)) ∧ Keeps (fun _ => False) w w' := by
  have k : Keeps (fun _ => False) w (w.alloc (.cells #[.bool r, .int .i64 n] 60)) := (Keeps.refl _ w).alloc _
  unfold fts opk rg
  cases u <;> cases r
  · go_enter Tryz.func59, Tryz.ntmps59
    go_wp2
    go_ret
    exact ⟨rfl, k⟩
  · go_enter Tryz.func59, Tryz.ntmps59
    go_wp2
    go_ret
    exact ⟨rfl, k⟩
  · go_enter Tryz.func59, Tryz.ntmps59
    go_wp2
    go_ret
    exact ⟨rfl, k⟩
  · cases h1 : decide (0 ≤ n) <;> cases h2 : decide (n < 16) <;>
    (go_enter Tryz.func59, Tryz.ntmps59
     go_wp2
     go_ret
     exact ⟨rfl, k⟩)
end
end Go.Proofs.YthchbcfecconbaaGreatDoor

namespace Go.Proofs.YthchbcfecconbaaGreatDoor
open Go.RowKit
def hasB (s : ByteArray) (c : Nat) : Bool := s.data.toList.any (fun b => b.toNat == c)
theorem hasB_yes {s : ByteArray} {c k : Nat} (h : k < s.size) (e : s[k].toNat = c) : hasB s c = true := by
  unfold hasB
  rw [List.any_eq_true]
  exact ⟨s[k], Array.mem_toList_iff.2 (Array.getElem_mem (xs := s.data) h), by simp [e]⟩
theorem hasB_no {s : ByteArray} {c : Nat} (h : ∀ k (h : k < s.size), s[k].toNat ≠ c) : hasB s c = false := by
  unfold hasB
  rw [List.any_eq_false]
  intro b hb
  obtain ⟨k, hk, rfl⟩ := Array.mem_iff_getElem.1 (Array.mem_toList_iff.1 hb)
  have h1 : ¬ s.data[k].toNat = c := h k hk
  simp [h1]
theorem retB {a b : Bool} (h : a = b) : Ending.returned (.bool a) = .returned (.bool b) := by rw [h]
set_option maxHeartbeats 1000000 in
theorem has_any (w : World) (s : ByteArray) (c : Nat) (hs : s.size ≤ 281474976710656) :
    Calls Tryz.prog 58 #[.string s, .int .u8 (c : Int)] w fun e w' => e = .returned (.bool (hasB s c)) ∧ w' = w := by
  go_enter Tryz.func58, Tryz.ntmps58
  go_wp2
  go_loop [5] (fun i => ∃ k : Nat, k ≤ s.size ∧ i = .int .i64 k ∧ Hid (∀ j (h : j < s.size), j < k → s[j].toNat ≠ c)) (fun i => s.size - (intOf i).toNat)
  case atStart => exact ⟨0, Nat.zero_le _, rfl, fun j _ h => by omega⟩
  case round =>
    obtain ⟨k, hk, rfl, hd⟩ := hrel
    by_cases hlt : k < s.size
    · by_cases c1 : s[k].toNat = c
      · have b1 : ((s[k].toNat : Int) == (c : Int)) = true := by simp; omega
        have HN : Hid (_ = _) := hasB_yes hlt c1
        clear c1
        go_wp2
        go_ret
        exact ⟨retB (by rw [HN.out]), rfl⟩
      · have b1 : ((s[k].toNat : Int) == (c : Int)) = false := by simp; omega
        have HN : Hid (∀ j (h : j < s.size), j < k + 1 → s[j].toNat ≠ c) := fun j h hj => by
          by_cases e : j = k
          · subst e; exact c1
          · exact hd.out j h (by omega)
        clear c1
        go_wp2
        go_round
        case rel => exact ⟨k + 1, by omega, by go_num, HN⟩
        case measure => simp [intOf]; omega
    · have e : k = s.size := by omega
      subst e
      have HN : Hid (_ = _) := hasB_no (fun k h => hd.out k h h)
      go_wp2
      go_ret
      exact ⟨retB (by rw [HN.out]), rfl⟩
def kdS (c : Int) : ByteArray := if c = 1 ∨ c = 2 then ⟨#[100, 111]⟩ else if c = 3 then ⟨#[111, 120]⟩ else if c = 4 then ⟨#[111]⟩ else if c = 5 then ⟨#[100, 120]⟩ else if c = 6 then ⟨#[100, 120, 121]⟩ else if c = 7 then ⟨#[120, 114, 121, 108]⟩ else if c = 8 then ⟨#[108]⟩ else if c = 10 then ⟨#[120]⟩ else ⟨#[]⟩
theorem kindsOf_any (w : World) (c : Int) (h : 1 ≤ c ∧ c ≤ 10) : Calls Tryz.prog 56 #[.int .i64 c] w fun e w' => e = .returned (.string (kdS c)) ∧ w' = w := by
  rcases (by omega : c = 1 ∨ c = 2 ∨ c = 3 ∨ c = 4 ∨ c = 5 ∨ c = 6 ∨ c = 7 ∨ c = 8 ∨ c = 9 ∨ c = 10) with rfl | rfl | rfl | rfl | rfl | rfl | rfl | rfl | rfl | rfl <;>
  (go_enter Tryz.func56, Tryz.ntmps56
   go_wp2
   go_ret
   exact ⟨rfl, rfl⟩)
theorem kd_size (c : Int) : (kdS c).size ≤ 281474976710656 := by
  unfold kdS
  repeat' split
  all_goals decide
theorem kd_all (c : Int) (h : 1 ≤ c ∧ c ≤ 10) : hasB (kdS c) 100 = kdD c ∧ hasB (kdS c) 111 = kdO c ∧ hasB (kdS c) 120 = kdX c ∧ hasB (kdS c) 121 = kdY c ∧ hasB (kdS c) 114 = kdR c ∧ hasB (kdS c) 108 = kdL c := by
  rcases (by omega : c = 1 ∨ c = 2 ∨ c = 3 ∨ c = 4 ∨ c = 5 ∨ c = 6 ∨ c = 7 ∨ c = 8 ∨ c = 9 ∨ c = 10) with rfl | rfl | rfl | rfl | rfl | rfl | rfl | rfl | rfl | rfl <;> decide
end Go.Proofs.YthchbcfecconbaaGreatDoor

namespace Go.Proofs.YthchbcfecconbaaGreatDoor
open Go.RowKit
theorem can_out {q : Ins} {n : Int} (h : q.code < 1 ∨ 10 < q.code) : q.can n = false := by
  unfold Ins.can
  rcases h with h | h
  · have : decide (1 ≤ q.code) = false := by simp; omega
    rw [this]; rfl
  · have : decide (q.code ≤ 10) = false := by simp; omega
    rw [this, Bool.and_false]; rfl
theorem can_in {q : Ins} {n : Int} (h : 1 ≤ q.code ∧ q.code ≤ 10) : q.can n = ((btw q.dst 0 15 (kdD q.code) && btw q.rel 1 6 (kdR q.code) && btw q.to 0 n (kdL q.code) && btw q.op 1 12 (q.code == 6)) && (fts q.oR q.oN (kdO q.code) && fts q.xR q.xN (kdX q.code) && fts q.yR q.yN (kdY q.code))) := by
  unfold Ins.can
  have h1 : decide (1 ≤ q.code) = true := by simp; omega
  have h2 : decide (q.code ≤ 10) = true := by simp; omega
  rw [h1, h2]; rfl
set_option maxHeartbeats 1000000 in
set_option maxRecDepth 100000 in
theorem rcan_any (w : World) (q : Ins) (n : Int) : Calls Tryz.prog 36 #[.agg q.cells.toArray, .int .i64 n] w fun e w' => e = .returned (.bool (q.can n)) ∧ Keeps (fun _ => False) w w' := by
  obtain ⟨cd, dst, oR, oN, xR, xN, yR, yN, op, rel, to⟩ := q
  show Calls Tryz.prog 36 #[.agg #[.int .i64 cd, .int .i64 dst, .bool oR, .int .i64 oN, .bool xR, .int .i64 xN, .bool yR, .int .i64 yN, .int .i64 op, .int .i64 rel, .int .i64 to], .int .i64 n] w _
  obtain ⟨w0, hw0⟩ : ∃ w0, w0 = w.alloc (.cells #[.int .i64 cd, .int .i64 dst, .bool oR, .int .i64 oN, .bool xR, .int .i64 xN, .bool yR, .int .i64 yN, .int .i64 op, .int .i64 rel, .int .i64 to] 62) := ⟨_, rfl⟩
  have k0 : Keeps (fun _ => False) w w0 := by rw [hw0]; exact (Keeps.refl _ w).alloc _
  have c0 : w0.cell? ⟨w.heap.size, 0, none⟩ = some (.int .i64 cd) := by rw [hw0]; simp
  have c1 : w0.cell? ⟨w.heap.size, 1, none⟩ = some (.int .i64 dst) := by rw [hw0]; simp
  have c2 : w0.cell? ⟨w.heap.size, 2, none⟩ = some (.bool oR) := by rw [hw0]; simp
  have c3 : w0.cell? ⟨w.heap.size, 3, none⟩ = some (.int .i64 oN) := by rw [hw0]; simp
  have c4 : w0.cell? ⟨w.heap.size, 4, none⟩ = some (.bool xR) := by rw [hw0]; simp
  have c5 : w0.cell? ⟨w.heap.size, 5, none⟩ = some (.int .i64 xN) := by rw [hw0]; simp
  have c6 : w0.cell? ⟨w.heap.size, 6, none⟩ = some (.bool yR) := by rw [hw0]; simp
  have c7 : w0.cell? ⟨w.heap.size, 7, none⟩ = some (.int .i64 yN) := by rw [hw0]; simp
  have c8 : w0.cell? ⟨w.heap.size, 8, none⟩ = some (.int .i64 op) := by rw [hw0]; simp
  have c9 : w0.cell? ⟨w.heap.size, 9, none⟩ = some (.int .i64 rel) := by rw [hw0]; simp
  have c10 : w0.cell? ⟨w.heap.size, 10, none⟩ = some (.int .i64 to) := by rw [hw0]; simp
  by_cases hr : 1 ≤ cd ∧ cd ≤ 10
  · have b1 : decide (cd < 1) = false := by simp; omega
    have b2 : decide (10 < cd) = false := by simp; omega
    obtain ⟨k1, k2, k3, k4, k5, k6⟩ := kd_all cd hr
    have hk := kindsOf_any w0 cd hr
    have hsz := kd_size cd
    rw [can_in (q := ⟨cd, dst, oR, oN, xR, xN, yR, yN, op, rel, to⟩) hr]
    simp only
    have h1 : ∀ w, Calls Tryz.prog 58 #[.string (kdS cd), .int .u8 100] w fun e w' => e = .returned (.bool (hasB (kdS cd) 100)) ∧ w' = w := fun w => has_any w (kdS cd) 100 hsz
    have h2 : ∀ w, Calls Tryz.prog 58 #[.string (kdS cd), .int .u8 111] w fun e w' => e = .returned (.bool (hasB (kdS cd) 111)) ∧ w' = w := fun w => has_any w (kdS cd) 111 hsz
    have h3 : ∀ w, Calls Tryz.prog 58 #[.string (kdS cd), .int .u8 120] w fun e w' => e = .returned (.bool (hasB (kdS cd) 120)) ∧ w' = w := fun w => has_any w (kdS cd) 120 hsz
    have h4 : ∀ w, Calls Tryz.prog 58 #[.string (kdS cd), .int .u8 121] w fun e w' => e = .returned (.bool (hasB (kdS cd) 121)) ∧ w' = w := fun w => has_any w (kdS cd) 121 hsz
    have h5 : ∀ w, Calls Tryz.prog 58 #[.string (kdS cd), .int .u8 114] w fun e w' => e = .returned (.bool (hasB (kdS cd) 114)) ∧ w' = w := fun w => has_any w (kdS cd) 114 hsz
    have h6 : ∀ w, Calls Tryz.prog 58 #[.string (kdS cd), .int .u8 108] w fun e w' => e = .returned (.bool (hasB (kdS cd) 108)) ∧ w' = w := fun w => has_any w (kdS cd) 108 hsz
    rw [k1] at h1
    rw [k2] at h2
    rw [k3] at h3
    rw [k4] at h4
    rw [k5] at h5
    rw [k6] at h6
    have g1 := fun w => between_any w dst 0 15 (kdD cd)
    have g2 := fun w => between_any w rel 1 6 (kdR cd)
    have g3 := fun w => between_any w to 0 n (kdL cd)
    have g4 := fun w => between_any w op 1 12 (cd == 6)
    have g5 := fun w => fits_any w oR oN (kdO cd)
    have g6 := fun w => fits_any w xR xN (kdX cd)
    have g7 := fun w => fits_any w yR yN (kdY cd)
    generalize btw dst 0 15 (kdD cd) = y1 at *
    generalize btw rel 1 6 (kdR cd) = y2 at *
    generalize btw to 0 n (kdL cd) = y3 at *
    generalize btw op 1 12 (cd == 6) = y4 at *
    generalize fts oR oN (kdO cd) = y5 at *
    generalize fts xR xN (kdX cd) = y6 at *
    generalize fts yR yN (kdY cd) = y7 at *
    generalize kdD cd = z1 at *
    generalize kdO cd = z2 at *
    generalize kdX cd = z3 at *
    generalize kdY cd = z4 at *
    generalize kdR cd = z5 at *
    generalize kdL cd = z6 at *
    generalize kdS cd = ks at *
    clear k1 k2 k3 k4 k5 k6 hsz hr
    go_enter Tryz.func36, Tryz.ntmps36
    go_wp2_with fail
    rw [← hw0]
    clear hw0
    go_wp2_with (go_at_call 56; refine hk.mono ?_; rintro e wk ⟨rfl, rfl⟩)
    have hNE : Nonempty (KS wk) := ⟨⟨wk, Keeps.refl _ wk⟩⟩
    have d0 := ks_cell c0
    have d1 := ks_cell c1
    have d2 := ks_cell c2
    have d3 := ks_cell c3
    have d4 := ks_cell c4
    have d5 := ks_cell c5
    have d6 := ks_cell c6
    have d7 := ks_cell c7
    have d8 := ks_cell c8
    have d9 := ks_cell c9
    have d10 := ks_cell c10
    cases y1 with
    | false =>
      refine wp_region_ks (by kernel_rfl) (by kernel_rfl) ?_
      repeat (go_big_quiet_step (first | (go_at_call 58; (first | (with_reducible refine (h1 _).mono ?_) | (with_reducible refine (h2 _).mono ?_) | (with_reducible refine (h3 _).mono ?_) | (with_reducible refine (h4 _).mono ?_) | (with_reducible refine (h5 _).mono ?_) | (with_reducible refine (h6 _).mono ?_)); rintro e w9 ⟨rfl, rfl⟩; exact ⟨rfl, _, rfl⟩) | (go_at_call 57; (first | (with_reducible refine (g1 _).mono ?_) | (with_reducible refine (g2 _).mono ?_) | (with_reducible refine (g3 _).mono ?_) | (with_reducible refine (g4 _).mono ?_)); rintro e w9 ⟨rfl, rfl⟩; exact ⟨rfl, _, rfl⟩) | (go_at_call 59; (first | (with_reducible refine (g5 _).mono ?_) | (with_reducible refine (g6 _).mono ?_) | (with_reducible refine (g7 _).mono ?_)); rintro e w9 ⟨rfl, k9⟩; exact ⟨rfl, ⟨_, (KS.property _).trans k9⟩, rfl⟩)))
      refine wpQuiet_nil ?_
      rintro _ ⟨u, rfl⟩
      have ku := k0.trans u.property
      generalize u.val = wu at *
      go_wp2
      go_ret
      exact ⟨rfl, ku⟩
    | true =>
      cases y2 with
      | false =>
        refine wp_region_ks (by kernel_rfl) (by kernel_rfl) ?_
        repeat (go_big_quiet_step (first | (go_at_call 58; (first | (with_reducible refine (h1 _).mono ?_) | (with_reducible refine (h2 _).mono ?_) | (with_reducible refine (h3 _).mono ?_) | (with_reducible refine (h4 _).mono ?_) | (with_reducible refine (h5 _).mono ?_) | (with_reducible refine (h6 _).mono ?_)); rintro e w9 ⟨rfl, rfl⟩; exact ⟨rfl, _, rfl⟩) | (go_at_call 57; (first | (with_reducible refine (g1 _).mono ?_) | (with_reducible refine (g2 _).mono ?_) | (with_reducible refine (g3 _).mono ?_) | (with_reducible refine (g4 _).mono ?_)); rintro e w9 ⟨rfl, rfl⟩; exact ⟨rfl, _, rfl⟩) | (go_at_call 59; (first | (with_reducible refine (g5 _).mono ?_) | (with_reducible refine (g6 _).mono ?_) | (with_reducible refine (g7 _).mono ?_)); rintro e w9 ⟨rfl, k9⟩; exact ⟨rfl, ⟨_, (KS.property _).trans k9⟩, rfl⟩)))
        refine wpQuiet_nil ?_
        rintro _ ⟨u, rfl⟩
        have ku := k0.trans u.property
        generalize u.val = wu at *
        go_wp2
        go_ret
        exact ⟨rfl, ku⟩
      | true =>
        cases y3 with
        | false =>
          refine wp_region_ks (by kernel_rfl) (by kernel_rfl) ?_
          repeat (go_big_quiet_step (first | (go_at_call 58; (first | (with_reducible refine (h1 _).mono ?_) | (with_reducible refine (h2 _).mono ?_) | (with_reducible refine (h3 _).mono ?_) | (with_reducible refine (h4 _).mono ?_) | (with_reducible refine (h5 _).mono ?_) | (with_reducible refine (h6 _).mono ?_)); rintro e w9 ⟨rfl, rfl⟩; exact ⟨rfl, _, rfl⟩) | (go_at_call 57; (first | (with_reducible refine (g1 _).mono ?_) | (with_reducible refine (g2 _).mono ?_) | (with_reducible refine (g3 _).mono ?_) | (with_reducible refine (g4 _).mono ?_)); rintro e w9 ⟨rfl, rfl⟩; exact ⟨rfl, _, rfl⟩) | (go_at_call 59; (first | (with_reducible refine (g5 _).mono ?_) | (with_reducible refine (g6 _).mono ?_) | (with_reducible refine (g7 _).mono ?_)); rintro e w9 ⟨rfl, k9⟩; exact ⟨rfl, ⟨_, (KS.property _).trans k9⟩, rfl⟩)))
          refine wpQuiet_nil ?_
          rintro _ ⟨u, rfl⟩
          have ku := k0.trans u.property
          generalize u.val = wu at *
          go_wp2
          go_ret
          exact ⟨rfl, ku⟩
        | true =>
          cases y4 with
          | false =>
            refine wp_region_ks (by kernel_rfl) (by kernel_rfl) ?_
            repeat (go_big_quiet_step (first | (go_at_call 58; (first | (with_reducible refine (h1 _).mono ?_) | (with_reducible refine (h2 _).mono ?_) | (with_reducible refine (h3 _).mono ?_) | (with_reducible refine (h4 _).mono ?_) | (with_reducible refine (h5 _).mono ?_) | (with_reducible refine (h6 _).mono ?_)); rintro e w9 ⟨rfl, rfl⟩; exact ⟨rfl, _, rfl⟩) | (go_at_call 57; (first | (with_reducible refine (g1 _).mono ?_) | (with_reducible refine (g2 _).mono ?_) | (with_reducible refine (g3 _).mono ?_) | (with_reducible refine (g4 _).mono ?_)); rintro e w9 ⟨rfl, rfl⟩; exact ⟨rfl, _, rfl⟩) | (go_at_call 59; (first | (with_reducible refine (g5 _).mono ?_) | (with_reducible refine (g6 _).mono ?_) | (with_reducible refine (g7 _).mono ?_)); rintro e w9 ⟨rfl, k9⟩; exact ⟨rfl, ⟨_, (KS.property _).trans k9⟩, rfl⟩)))
            refine wpQuiet_nil ?_
            rintro _ ⟨u, rfl⟩
            have ku := k0.trans u.property
            generalize u.val = wu at *
            go_wp2
            go_ret
            exact ⟨rfl, ku⟩
          | true =>
            refine wp_region_ks (by kernel_rfl) (by kernel_rfl) ?_
            repeat (go_big_quiet_step (first | (go_at_call 58; (first | (with_reducible refine (h1 _).mono ?_) | (with_reducible refine (h2 _).mono ?_) | (with_reducible refine (h3 _).mono ?_) | (with_reducible refine (h4 _).mono ?_) | (with_reducible refine (h5 _).mono ?_) | (with_reducible refine (h6 _).mono ?_)); rintro e w9 ⟨rfl, rfl⟩; exact ⟨rfl, _, rfl⟩) | (go_at_call 57; (first | (with_reducible refine (g1 _).mono ?_) | (with_reducible refine (g2 _).mono ?_) | (with_reducible refine (g3 _).mono ?_) | (with_reducible refine (g4 _).mono ?_)); rintro e w9 ⟨rfl, rfl⟩; exact ⟨rfl, _, rfl⟩) | (go_at_call 59; (first | (with_reducible refine (g5 _).mono ?_) | (with_reducible refine (g6 _).mono ?_) | (with_reducible refine (g7 _).mono ?_)); rintro e w9 ⟨rfl, k9⟩; exact ⟨rfl, ⟨_, (KS.property _).trans k9⟩, rfl⟩)))
            refine wpQuiet_nil ?_
            rintro _ ⟨u, rfl⟩
            have ku := k0.trans u.property
            have c2 := u.property.cell c2 (fun e => e)
            have c3 := u.property.cell c3 (fun e => e)
            have c4 := u.property.cell c4 (fun e => e)
            have c5 := u.property.cell c5 (fun e => e)
            have c6 := u.property.cell c6 (fun e => e)
            have c7 := u.property.cell c7 (fun e => e)
            clear d0 d1 d2 d3 d4 d5 d6 d7 d8 d9 d10
            generalize u.val = wu at *
            have hNE2 : Nonempty (KS wu) := ⟨⟨wu, Keeps.refl _ wu⟩⟩
            go_wp2_with fail
            have d2 := ks_cell c2
            have d3 := ks_cell c3
            have d4 := ks_cell c4
            have d5 := ks_cell c5
            have d6 := ks_cell c6
            have d7 := ks_cell c7
            cases y5 with
            | false =>
              refine wp_region_ks (by kernel_rfl) (by kernel_rfl) ?_
              repeat (go_big_quiet_step (first | (go_at_call 58; (first | (with_reducible refine (h1 _).mono ?_) | (with_reducible refine (h2 _).mono ?_) | (with_reducible refine (h3 _).mono ?_) | (with_reducible refine (h4 _).mono ?_) | (with_reducible refine (h5 _).mono ?_) | (with_reducible refine (h6 _).mono ?_)); rintro e w9 ⟨rfl, rfl⟩; exact ⟨rfl, _, rfl⟩) | (go_at_call 57; (first | (with_reducible refine (g1 _).mono ?_) | (with_reducible refine (g2 _).mono ?_) | (with_reducible refine (g3 _).mono ?_) | (with_reducible refine (g4 _).mono ?_)); rintro e w9 ⟨rfl, rfl⟩; exact ⟨rfl, _, rfl⟩) | (go_at_call 59; (first | (with_reducible refine (g5 _).mono ?_) | (with_reducible refine (g6 _).mono ?_) | (with_reducible refine (g7 _).mono ?_)); rintro e w9 ⟨rfl, k9⟩; exact ⟨rfl, ⟨_, (KS.property _).trans k9⟩, rfl⟩)))
              refine wpQuiet_nil ?_
              rintro _ ⟨u2, rfl⟩
              have ku2 := ku.trans u2.property
              generalize u2.val = wu2 at *
              go_wp2
              go_ret
              exact ⟨rfl, ku2⟩
            | true =>
              cases y6 with
              | false =>
                refine wp_region_ks (by kernel_rfl) (by kernel_rfl) ?_
                repeat (go_big_quiet_step (first | (go_at_call 58; (first | (with_reducible refine (h1 _).mono ?_) | (with_reducible refine (h2 _).mono ?_) | (with_reducible refine (h3 _).mono ?_) | (with_reducible refine (h4 _).mono ?_) | (with_reducible refine (h5 _).mono ?_) | (with_reducible refine (h6 _).mono ?_)); rintro e w9 ⟨rfl, rfl⟩; exact ⟨rfl, _, rfl⟩) | (go_at_call 57; (first | (with_reducible refine (g1 _).mono ?_) | (with_reducible refine (g2 _).mono ?_) | (with_reducible refine (g3 _).mono ?_) | (with_reducible refine (g4 _).mono ?_)); rintro e w9 ⟨rfl, rfl⟩; exact ⟨rfl, _, rfl⟩) | (go_at_call 59; (first | (with_reducible refine (g5 _).mono ?_) | (with_reducible refine (g6 _).mono ?_) | (with_reducible refine (g7 _).mono ?_)); rintro e w9 ⟨rfl, k9⟩; exact ⟨rfl, ⟨_, (KS.property _).trans k9⟩, rfl⟩)))
                refine wpQuiet_nil ?_
                rintro _ ⟨u2, rfl⟩
                have ku2 := ku.trans u2.property
                generalize u2.val = wu2 at *
                go_wp2
                go_ret
                exact ⟨rfl, ku2⟩
              | true =>
                refine wp_region_ks (by kernel_rfl) (by kernel_rfl) ?_
                repeat (go_big_quiet_step (first | (go_at_call 58; (first | (with_reducible refine (h1 _).mono ?_) | (with_reducible refine (h2 _).mono ?_) | (with_reducible refine (h3 _).mono ?_) | (with_reducible refine (h4 _).mono ?_) | (with_reducible refine (h5 _).mono ?_) | (with_reducible refine (h6 _).mono ?_)); rintro e w9 ⟨rfl, rfl⟩; exact ⟨rfl, _, rfl⟩) | (go_at_call 57; (first | (with_reducible refine (g1 _).mono ?_) | (with_reducible refine (g2 _).mono ?_) | (with_reducible refine (g3 _).mono ?_) | (with_reducible refine (g4 _).mono ?_)); rintro e w9 ⟨rfl, rfl⟩; exact ⟨rfl, _, rfl⟩) | (go_at_call 59; (first | (with_reducible refine (g5 _).mono ?_) | (with_reducible refine (g6 _).mono ?_) | (with_reducible refine (g7 _).mono ?_)); rintro e w9 ⟨rfl, k9⟩; exact ⟨rfl, ⟨_, (KS.property _).trans k9⟩, rfl⟩)))
                refine wpQuiet_nil ?_
                rintro _ ⟨u2, rfl⟩
                have ku2 := ku.trans u2.property
                generalize u2.val = wu2 at *
                go_wp2
                go_ret
                exact ⟨rfl, ku2⟩
  · rw [can_out (q := ⟨cd, dst, oR, oN, xR, xN, yR, yN, op, rel, to⟩) (by show cd < 1 ∨ 10 < cd; omega)]
    by_cases hr1 : cd < 1
    · have b1 : decide (cd < 1) = true := by simp; omega
      go_enter Tryz.func36, Tryz.ntmps36
      subst hw0
      go_wp2
      go_ret
      exact ⟨rfl, k0⟩
    · have b1 : decide (cd < 1) = false := by simp; omega
      have b2 : decide (10 < cd) = true := by simp; omega
      go_enter Tryz.func36, Tryz.ntmps36
      subst hw0
      go_wp2
      go_ret
      exact ⟨rfl, k0⟩
end Go.Proofs.YthchbcfecconbaaGreatDoor

namespace Go.Proofs.YthchbcfecconbaaGreatDoor
open Go.RowKit
structure CL (w : World) (b : Nat) (l : List Value) : Prop where
  c : ∀ o v, l[o]? = some v → w.cell? ⟨b, o, none⟩ = some v
  z : ∀ o, o < l.length → w.frozen? ⟨b, o, none⟩ = false
section
variable {w w' : World} {b : Nat} {l : List Value} {S : Nat → Prop}
theorem CL.lt (h : CL w b l) (hl : 0 < l.length) : b < w.heap.size := World.block_lt_of_cell? _ _ (h.c 0 l[0] (by simp [hl]))
theorem CL.keep (h : CL w b l) (hl : 0 < l.length) (k : Keeps S w w') (hS : ¬ S b) : CL w' b l :=
  ⟨fun o v e => k.cell (h.c o v e) hS, fun o ho => (k.frozen (p := ⟨b, o, none⟩) (h.lt hl) hS).trans (h.z o ho)⟩
theorem CL.set (h : CL w b l) {o : Nat} (ho : o < l.length) (v : Value) : CL (w.setCell ⟨b, o, none⟩ v) b (l.set o v) := by
  refine ⟨fun p u e => ?_, fun p hp => ?_⟩
  · by_cases hpo : o = p
    · subst hpo
      rw [List.getElem?_set_self ho] at e
      cases e
      exact World.cell?_setCell_same _ _ _ (h.c o l[o] (by simp [ho]))
    · rw [List.getElem?_set_ne hpo] at e
      rw [World.cell?_setCell_other _ _ _ _ (by intro e2; injection e2 with _ e3; omega)]
      exact h.c p u e
  · simp only [World.frozen?_setCell]
    exact h.z p (by simpa using hp)
theorem CL.other (h : CL w b l) {p : Addr} (hne : p.block ≠ b) (v : Value) : CL (w.setCell p v) b l :=
  ⟨fun o u e => by rw [World.cell?_setCell_other _ _ _ _ (by intro e2; exact hne (by rw [e2]))]; exact h.c o u e, fun o ho => by simp only [World.frozen?_setCell]; exact h.z o ho⟩
theorem CL.alloc (h : CL w b l) (hl : 0 < l.length) (ob : Obj) : CL (w.alloc ob) b l := h.keep (S := fun _ => False) hl ((Keeps.refl _ w).alloc ob) (fun e => e)
def sets (l : List Value) (o : Nat) (vs : List Value) : List Value := l.take o ++ vs ++ l.drop (o + vs.length)
theorem CL.there (h : CL w b l) {o n : Nat} (ho : o + n ≤ l.length) : w.there b o n := fun j hj =>
  ⟨by rw [h.c (o + j) l[o + j] (by simp)]; rfl, h.z (o + j) (by omega)⟩
theorem CL.range (h : CL w b l) (o n : Nat) : w.rangeAt b o ((l.drop o).take n) := fun j v e => by
  rw [List.getElem?_take] at e
  split at e
  · rw [List.getElem?_drop] at e; exact h.c (o + j) v e
  · cases e
theorem CL.sets (h : CL w b l) {o : Nat} {vs : List Value} (ho : o + vs.length ≤ l.length) : CL (w.setCells b o vs) b (sets l o vs) := by
  have ht := h.there ho
  have hl : (Go.Proofs.YthchbcfecconbaaGreatDoor.sets l o vs).length = l.length := by simp [Go.Proofs.YthchbcfecconbaaGreatDoor.sets]; omega
  refine ⟨fun p u e => ?_, fun p hp => ?_⟩
  · unfold Go.Proofs.YthchbcfecconbaaGreatDoor.sets at e
    by_cases h1 : p < o
    · rw [World.cell?_setCells_out b vs o w ⟨b, p, none⟩ (fun _ _ => .inl h1)]
      rw [List.append_assoc, List.getElem?_append_left (by simp; omega), List.getElem?_take_of_lt h1] at e
      exact h.c p u e
    · by_cases h2 : p < o + vs.length
      · have := World.cell?_setCells_in b vs o w (fun i hi => (ht i hi).1) (p - o) (by omega)
        rw [show o + (p - o) = p by omega] at this
        rw [this]
        rw [List.append_assoc, List.getElem?_append_right (by simp; omega), List.getElem?_append_left (by simp; omega)] at e
        simp only [List.length_take, Nat.min_eq_left (show o ≤ l.length by omega)] at e
        rw [List.getElem?_eq_getElem (by omega)] at e
        exact e
      · rw [World.cell?_setCells_out b vs o w ⟨b, p, none⟩ (fun _ _ => .inr (by show o + vs.length ≤ p; omega))]
        rw [List.getElem?_append_right (by simp; omega), List.getElem?_drop] at e
        simp only [List.length_append, List.length_take, Nat.min_eq_left (show o ≤ l.length by omega)] at e
        rw [show o + vs.length + (p - (o + vs.length)) = p by omega] at e
        exact h.c p u e
  · rw [World.frozen?_setCells]
    exact h.z p (by omega)
theorem Keeps.setCells {S : Nat → Prop} {a : World} {b : Nat} (hp : b < a.heap.size → S b) : ∀ (vs : List Value) (o : Nat) {b' : World}, Keeps S a b' → Keeps S a (b'.setCells b o vs)
  | [], _, _, h => h
  | v :: r, o, _, h => Keeps.setCells hp r (o + 1) (h.setCell (p := ⟨b, o, none⟩) hp v)
theorem Keeps.setA {a b' : World} (h : Keeps (fun k => k = b) a b') (o : Nat) (v : Value) : Keeps (fun k => k = b) a (b'.setCell ⟨b, o, none⟩ v) := h.setCell (fun _ => rfl) v
theorem Keeps.setsA {a b' : World} (h : Keeps (fun k => k = b) a b') (o : Nat) (vs : List Value) : Keeps (fun k => k = b) a (b'.setCells b o vs) := Keeps.setCells (S := fun k => k = b) (fun _ => rfl) vs o h
theorem CL.drew (h : CL w b l) : CL w.drew b l := ⟨h.c, h.z⟩
end
theorem CL.made (w : World) (l : List Value) (t : TypeId) : CL (w.alloc (.cells l.toArray t)) w.heap.size l := by
  refine ⟨fun o v e => ?_, fun o _ => ?_⟩
  · have : o < l.length := (List.getElem?_eq_some_iff.1 e).1
    simp [e]
  · simp
theorem run_store_nf (P : Program) (W : World) (p : Addr) (h : (W.cell? p).isSome = true) (hz : W.frozen? p = false) : (store p .nilFunc).run P W = .ok () (W.setCell p .nilFunc) := by
  obtain ⟨u, hu⟩ := Option.isSome_iff_exists.1 h
  rw [run_store P W _ _ _ rfl]; simp [hu, hz]
theorem run_store_f (P : Program) (W : World) (p : Addr) (f : Fn) (a b : Array Value) (h : (W.cell? p).isSome = true) (hz : W.frozen? p = false) : (store p (.func f a b)).run P W = .ok () (W.setCell p (.func f a b)) := by
  obtain ⟨u, hu⟩ := Option.isSome_iff_exists.1 h
  rw [run_store P W _ _ _ rfl]; simp [hu, hz]
theorem wpList_load_run {P : Program} {w : World} {ops : Array Oper} {rest : List Oper} {o : Oper} {a : Act} {Q : Exit → Act → World → Prop} (hgd : o.guard = none) (ty : TypeId) (x : Operand) (ho : o.op = .load ty x) (ad : Addr) (hx : a.eval x = .pointer (some ad)) (v : Value)
    (hr : (loadVar ty ad).run P w = .ok v w) (h : wpList P ops Q rest (a.put o.dst v) w) : wpList P ops Q (o :: rest) a w :=
  wpList_plain hgd fun _ hK => by
    unfold Oper.wp execOp
    simp only [ho, hx, Instr.loadAt, Instr.sureAddr, Sem.run_bind, Sem.run_pure, Result.andThen_ok, hr]
    exact hK _ _ h
theorem wpAnyH_one {P : Program} {ops : Array Oper} {Q : Exit → Act → World → Prop} {md : Region.Mode} {S : World → Prop} {fuel : Nat} {listed : Array Bool} {a : Act} {w : World} {o : Oper} (i : Nat) (hr : Region.ready md ops listed = [i]) (hoi : ops[i]? = some o) (hgd : o.guard = none)
    (h : Oper.wp P o a w (fun a' w' => S w' ∧ (S w' → wpAnyH P md ops Q S fuel (listed.setIfInBounds i true) a' w')) Q) : wpAnyH P md ops Q S (fuel + 1) listed a w := by
  refine wpAnyH_ready hr (by simp) (AllReadyH.cons hoi (fun K hK => ?_) AllReadyH.nil)
  rw [if_pos (by simp [Region.wanted, hgd])]
  exact Oper.wp_mono (fun a' w' e => hK.out _ _ e.1 e.2) h
theorem wpAnyH_store {P : Program} {ops : Array Oper} {Q : Exit → Act → World → Prop} {md : Region.Mode} {S : World → Prop} {fuel : Nat} {listed : Array Bool} {a : Act} {w : World} {o : Oper} (i : Nat) (hr : Region.ready md ops listed = [i]) (hoi : ops[i]? = some o) (hgd : o.guard = none)
    (ty : TypeId) (x y : Operand) (ho : o.op = .store ty x y) (b off n : Nat) (cells : Array Value) (hx : a.eval x = .pointer (some ⟨b, off, none⟩)) (hy : a.eval y = .agg cells) (hn : cells.size = n) (ht : w.there b off n) (hi : (P.info? ty).map (·.size) = some n) (h1 : cells.all (·.oneCell') = true)
    (hS : S (w.setCells b off cells.toList)) (h : S (w.setCells b off cells.toList) → wpAnyH P md ops Q S fuel (listed.setIfInBounds i true) (a.put o.dst undef) (w.setCells b off cells.toList)) : wpAnyH P md ops Q S (fuel + 1) listed a w := by
  refine wpAnyH_ready hr (by simp) (AllReadyH.cons hoi (fun K hK => ?_) AllReadyH.nil)
  rw [if_pos (by simp [Region.wanted, hgd])]
  exact wp_store_mid ty x y ho b off cells hx hy (hn ▸ ht) (hn ▸ hi) h1 (hK.out _ _ hS h)
theorem wpList_store_cl {P : Program} {ops : Array Oper} {rest : List Oper} {op : Oper} {a : Act} {w : World} {Q : Exit → Act → World → Prop} (hgd : op.guard = none) (ty : TypeId) (x y : Operand) (ho : op.op = .store ty x y)
    (b o n : Nat) (cells : Array Value) (hx : a.eval x = .pointer (some ⟨b, o, none⟩)) (hy : a.eval y = .agg cells) (hn : cells.size = n) {l : List Value} (hC : CL w b l) (hl : o + n ≤ l.length)
    (hi : (P.info? ty).map (·.size) = some n) (h1 : cells.all (·.oneCell') = true)
    (h : ∀ w1, CL w1 b (sets l o cells.toList) → Keeps (fun k => k = b) w w1 → w1.heap.size = w.heap.size → wpList P ops Q rest (a.put op.dst undef) w1) : wpList P ops Q (op :: rest) a w :=
  wpList_store_mid hgd ty x y ho b o cells hx hy (hn ▸ hC.there hl) (hn ▸ hi) h1
    (h _ (hC.sets (by simp only [Array.length_toList]; omega)) ((Keeps.refl _ w).setsA _ _) (by
      have : ∀ (vs : List Value) (o : Nat) (w : World), (w.setCells b o vs).heap.size = w.heap.size := by
        intro vs
        induction vs with
        | nil => intro o w; rfl
        | cons v r ih => intro o w; show (World.setCells _ b (o + 1) r).heap.size = _; rw [ih]; simp
      exact this _ _ _))
end Go.Proofs.YthchbcfecconbaaGreatDoor

namespace Go.Proofs.YthchbcfecconbaaGreatDoor
open Go.RowKit
def eqI (u q : Ins) : Bool := u.code == q.code && u.dst == q.dst && (u.oR == q.oR && u.oN == q.oN) && (u.xR == q.xR && u.xN == q.xN) && (u.yR == q.yR && u.yN == q.yN) && u.op == q.op && u.rel == q.rel && u.to == q.to
set_option maxHeartbeats 1000000 in
set_option maxRecDepth 100000 in
theorem eql_ins (w : World) (u q : Ins) : (Op.equalIn 10000 69 (.agg u.cells.toArray) (.agg q.cells.toArray)).run Tryz.prog w = .ok (eqI u q) w := by
  obtain ⟨a0, a1, a2, a3, a4, a5, a6, a7, a8, a9, a10⟩ := u
  obtain ⟨b0, b1, b2, b3, b4, b5, b6, b7, b8, b9, b10⟩ := q
  rw [run_equalIn_agg w 9999 _ _ _ (by kernel_rfl) (by kernel_rfl)]
  unfold Program.fieldsOf
  rw [Tryz.underlying69]
  simp only [Ins.cells, eqI]
  go_simp
  (repeat' split) <;> simp_all
def Ins.lay (u q : Ins) (s : Int) : Ins := if s = 1 then { u with dst := q.dst } else if s = 2 then { u with oR := q.oR, oN := q.oN } else if s = 3 then { u with xR := q.xR, xN := q.xN } else if s = 4 then { u with yR := q.yR, yN := q.yN } else if s = 5 then { u with rel := q.rel } else { u with to := q.to }
def isRel (r : Int) : Bool := decide (1 ≤ r) && decide (r ≤ 6)
def isOp (r : Int) : Bool := decide (1 ≤ r) && decide (r ≤ 12)
def Ins.oks (q : Ins) (n : Int) (s : Int) : Bool := if s = 1 then rg q.dst else if s = 2 then opk q.oR q.oN else if s = 3 then opk q.xR q.xN else if s = 4 then opk q.yR q.yN else if s = 5 then isRel q.rel else decide (0 ≤ q.to) && decide (q.to ≤ n)
def slo (c : Nat) : List Int := ([[], [1, 2], [1, 2], [2, 3], [2], [1, 3], [1, 3, 4], [3, 5, 4, 6], [6], [], [3]] : List (List Int)).getD c []
def Ins.lays (u q : Ins) (l : List Int) : Ins := l.foldl (fun u s => u.lay q s) u
def Ins.cab (q : Ins) (n : Int) (c : Nat) : Bool := ((if c = 6 then isOp q.op else true) && (slo c).all (q.oks n)) && eqI (({ ins0 with code := q.code, op := if c = 6 then q.op else 0 } : Ins).lays q (slo c)) q
theorem cab_can {q : Ins} {n : Int} {c : Nat} (hc : q.code = (c : Int)) (h : 1 ≤ c ∧ c ≤ 10) : q.cab n c = q.can n := by
  rw [can_in (by omega), Bool.eq_iff_iff]
  obtain ⟨a0, a1, a2, a3, a4, a5, a6, a7, a8, a9, a10⟩ := q
  simp only at hc
  subst hc
  rcases (by omega : c = 1 ∨ c = 2 ∨ c = 3 ∨ c = 4 ∨ c = 5 ∨ c = 6 ∨ c = 7 ∨ c = 8 ∨ c = 9 ∨ c = 10) with rfl | rfl | rfl | rfl | rfl | rfl | rfl | rfl | rfl | rfl <;>
  (cases a2 <;> cases a4 <;> cases a6 <;> simp [Ins.cab, slo, Ins.lays, Ins.lay, Ins.oks, eqI, ins0, isOp, isRel, btw, fts, rg, opk, kdD, kdO, kdX, kdY, kdR, kdL, and_assoc] <;> omega)
end Go.Proofs.YthchbcfecconbaaGreatDoor

namespace Go.Proofs.YthchbcfecconbaaGreatDoor
open Go.RowKit
def opT (i : Nat) : ByteArray := ⟨(([#[], #[97, 100, 100], #[115, 117, 98], #[109, 117, 108], #[100, 105, 118], #[114, 101, 109], #[97, 110, 100], #[111, 114], #[120, 111, 114], #[115, 104, 108], #[115, 104, 114], #[109, 105, 110], #[109, 97, 120]] : List (Array UInt8)).getD i #[])⟩
def relT (i : Nat) : ByteArray := ⟨(([#[], #[61, 61], #[33, 61], #[60], #[60, 61], #[62], #[62, 61]] : List (Array UInt8)).getD i #[])⟩
def look (tab : Nat → ByteArray) (s : ByteArray) : Nat → Nat → Nat
  | _, 0 => 0
  | i, n + 1 => if (tab i).toList == s.toList then i else look tab s (i + 1) n
def lookE (bad : Int) (n : Nat) : Int := if n = 0 then bad else 0
theorem look_hit (tab : Nat → ByteArray) (s : ByteArray) (i n : Nat) (h : ((tab i).toList == s.toList) = true) : look tab s i (n + 1) = i := by
  show (if (tab i).toList == s.toList then i else _) = i; rw [if_pos h]
theorem look_miss (tab : Nat → ByteArray) (s : ByteArray) (i n : Nat) (h : ((tab i).toList == s.toList) = false) : look tab s i (n + 1) = look tab s (i + 1) n := by
  show (if (tab i).toList == s.toList then i else _) = _; rw [if_neg (by simp [h])]
def nameAt (tab : Nat → ByteArray) (top : Int) (op : Int) : ByteArray := if 1 ≤ op ∧ op ≤ top then tab op.toNat else ⟨#[]⟩
end Go.Proofs.YthchbcfecconbaaGreatDoor

