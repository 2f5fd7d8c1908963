import Derived.Test.YtkebpelpjkgdkabQueE
namespace Go.Proofs.Ytkebpelpjkgdkab
open Go.RowKit Go.Maps

/-- A list of items in memory. -/
def IL (w : World) (a : Option Addr) (xs : List It) : Prop :=
  xs.length = 0 ∨ ∃ b off, a = some ⟨b, off, none⟩ ∧ b < w.heap.size ∧ ∀ i, i < xs.length → w.cell? ⟨b, off + i * 2, none⟩ = some (.int .i64 (ia xs i).1) ∧ w.cell? ⟨b, off + i * 2 + 1, none⟩ = some (.int .i64 (ia xs i).2)

theorem IL.keep {w w' : World} {a : Option Addr} {xs : List It} (h : IL w a xs) {S : Nat → Prop} (k : Keeps S w w') (hS : ∀ b off, a = some ⟨b, off, none⟩ → b < w.heap.size → ¬ S b) : IL w' a xs := by
  rcases h with h | ⟨b, off, rfl, hb, h⟩
  · exact .inl h
  · exact .inr ⟨b, off, rfl, Nat.lt_of_lt_of_le hb k.size, fun i hi => ⟨k.cell (h i hi).1 (hS b off rfl hb), k.cell (h i hi).2 (hS b off rfl hb)⟩⟩
theorem IL.new {w w' : World} {a : Option Addr} {xs : List It} (h : IL w a xs) (k : Keeps (fun _ => False) w w') : IL w' a xs := h.keep k (fun _ _ _ _ e => e)
theorem IL.some {w : World} {a : Option Addr} {xs : List It} (h : IL w a xs) (hl : 0 < xs.length) : ∃ b off, a = Option.some ⟨b, off, none⟩ ∧ b < w.heap.size ∧ ∀ i, i < xs.length → w.cell? ⟨b, off + i * 2, none⟩ = Option.some (.int .i64 (ia xs i).1) ∧ w.cell? ⟨b, off + i * 2 + 1, none⟩ = Option.some (.int .i64 (ia xs i).2) :=
  h.resolve_left (by omega)

/-- What is owned can be read. -/
theorem owns_il {w : World} {base : Nat} {v : Value} {n : Nat} {xs : List It} (h : w.ownsRow base 32 2 v n (flat xs)) (hn : n = xs.length) : ∃ a cap, v = .slice a xs.length cap ∧ IL w a xs ∧ (∀ b off, a = some ⟨b, off, none⟩ → v.ownBlock = some b ∧ base ≤ b) := by
  subst hn
  rcases h.2 with ⟨rfl, h0⟩ | ⟨g, cap, cur, rfl, hb, hg, hnc, hcm, hcs, ht⟩
  · exact ⟨none, 0, by rw [h0], .inl h0, fun b off e => by cases e⟩
  · refine ⟨_, cap, rfl, .inr ⟨g, 0, rfl, owns_lt' h g rfl, fun i hi => ?_⟩, fun b off e => by cases e; exact ⟨rfl, hb⟩⟩
    simp only [Nat.zero_add]
    exact ⟨by rw [h.cellAt (i * 2) (by omega), flat_get0 xs i hi], by rw [h.cellAt (i * 2 + 1) (by omega), flat_get1 xs i hi]⟩

set_option maxHeartbeats 1600000 in
set_option maxRecDepth 1000000 in
theorem lbefore_any (w : World) (a b : It) :
    Calls Try.prog 34 #[.agg #[.int .i64 a.1, .int .i64 a.2], .agg #[.int .i64 b.1, .int .i64 b.2]] w fun e w' => e = .returned (.bool (bef a b)) ∧ Keeps (fun _ => False) w w' := by
  obtain ⟨a1, a2⟩ := a
  obtain ⟨b1, b2⟩ := b
  have K : ∀ o o', Keeps (fun _ => False) w ((w.alloc o).alloc o') := fun o o' => ((Keeps.refl _ w).alloc o).alloc o'
  by_cases h1 : a1 < b1
  · have h1' : decide (a1 < b1) = true := by simp [h1]
    have e : bef (a1, a2) (b1, b2) = true := by simp [bef, h1]
    rw [e]
    go_enter Try.func34, Try.ntmps34
    go_wp2
    go_ret
    exact ⟨rfl, K _ _⟩
  · have h1' : decide (a1 < b1) = false := by simp [h1]
    by_cases h2 : a1 = b1
    · have h2' : (a1 == b1) = true := by simp [h2]
      have e : bef (a1, a2) (b1, b2) = decide (a2 < b2) := by simp [bef, h2]
      rw [e]
      go_enter Try.func34, Try.ntmps34
      go_wp2
      go_ret
      exact ⟨rfl, K _ _⟩
    · have h2' : (a1 == b1) = false := by simp [h2]
      have e : bef (a1, a2) (b1, b2) = false := by simp [bef, h2]; omega
      rw [e]
      go_enter Try.func34, Try.ntmps34
      go_wp2
      go_ret
      exact ⟨rfl, K _ _⟩

/-- The worlds that come of one by new blocks and draws alone. -/
structure KS (w : World) where
  val : World
  property : Keeps (fun _ => False) w val
/-- A region that draws its order, of which only reads and calls that lay new blocks are parts, is walked once, in the order of the text. -/
theorem wp_region_ks {P : Program} {id : Nat} {Q : Exit → Act → World → Prop} {a : Act} {w : World} {l : List Oper} (hm : P.follows .mixedOrders = true) (hB : Region.lexB .any l.toArray = true)
    (h : wpQuiet P l.toArray (fun w' => ∃ u : KS w, w' = u.1) (fun a' => ∀ w', (∃ u : KS w, w' = u.1) → Q .normal a' w') l a) : (Code.region id l.toArray true).wp P Q a w :=
  wp_region_quiet (C := fun w' => ∃ u : KS w, w' = u.1) hm hB ⟨⟨_, (Keeps.refl _ w).drew⟩, rfl⟩ (by simpa using h)
theorem ks_cell {w : World} {p : Addr} {v : Value} (h : w.cell? p = some v) : ∀ u : KS w, u.1.cell? p = some v := fun u => u.2.cell h (fun e => e)

/-- Two items compared. -/
theorem itemEq (y x : It) (w : World) : (binOp .eql 32 (.agg #[.int .i64 y.1, .int .i64 y.2]) (.agg #[.int .i64 x.1, .int .i64 x.2])).run Try.prog w = .ok (.bool (decide (y = x))) w := by
  obtain ⟨y1, y2⟩ := y
  obtain ⟨x1, x2⟩ := x
  by_cases h1 : y1 = x1
  · by_cases h2 : y2 = x2
    · have a1 : (y1 == x1) = true := by simp [h1]
      have a2 : (y2 == x2) = true := by simp [h2]
      go_simp
    · have a1 : (y1 == x1) = true := by simp [h1]
      have a2 : (y2 == x2) = false := by simp [h2]
      go_simp
  · have a1 : (y1 == x1) = false := by simp [h1]
    go_simp
theorem itemNe (y x : It) (w : World) : (binOp .neq 32 (.agg #[.int .i64 y.1, .int .i64 y.2]) (.agg #[.int .i64 x.1, .int .i64 x.2])).run Try.prog w = .ok (.bool (!decide (y = x))) w := by
  obtain ⟨y1, y2⟩ := y
  obtain ⟨x1, x2⟩ := x
  by_cases h1 : y1 = x1
  · by_cases h2 : y2 = x2
    · have a1 : (y1 == x1) = true := by simp [h1]
      have a2 : (y2 == x2) = true := by simp [h2]
      go_simp
    · have a1 : (y1 == x1) = true := by simp [h1]
      have a2 : (y2 == x2) = false := by simp [h2]
      go_simp
  · have a1 : (y1 == x1) = false := by simp [h1]
    go_simp

/-- How often. -/
def cnt (xs : List It) (x : It) : Nat := (xs.filter (fun y => decide (y = x))).length
theorem cnt_succ {xs : List It} {i : Nat} (hi : i < xs.length) (x : It) : cnt (xs.take (i + 1)) x = cnt (xs.take i) x + (if ia xs i = x then 1 else 0) := by
  unfold cnt
  rw [← List.take_append_getElem hi, List.filter_append, List.length_append, ia_get hi]
  by_cases h : xs[i] = x <;> simp [h]
theorem cnt_le (xs : List It) (x : It) : cnt xs x ≤ xs.length := List.length_filter_le _ _

/-- None is before the one ahead of it; strictly: none is like it. -/
def Rise (st : Bool) (xs : List It) : Prop := ∀ i, 0 < i → i < xs.length → bef (ia xs i) (ia xs (i - 1)) = false ∧ (st = true → ia xs i ≠ ia xs (i - 1))

set_option maxHeartbeats 3200000 in
set_option maxRecDepth 1000000 in
theorem rising_any {w : World} {a : Option Addr} {xs : List It} (h : IL w a xs) (hl : xs.length ≤ 9223372036854775807) (cap : Nat) (st : Bool) (hR : Rise st xs) :
    Calls Try.prog 18 #[.slice a xs.length cap, .bool st] w fun e w' => e = .returned (.bool true) ∧ Keeps (fun _ => False) w w' := by
  have HI : Hid (IL w a xs) := h
  have HR : Hid (Rise st xs) := hR
  clear hR h
  have heq := itemEq
  go_enter Try.func18, Try.ntmps18
  go_wp2_with fail
  go_loopw [5] (fun iv wr => ∃ i : Nat, 0 < i ∧ (i ≤ xs.length ∨ i = 1) ∧ iv = .int .i64 i ∧ Keeps (fun _ => False) w wr) (fun iv _ => xs.length + 1 - (intOf iv).toNat)
  case atStart => exact ⟨1, by omega, .inr rfl, rfl, Keeps.refl _ _⟩
  case round =>
    obtain ⟨i, hi0, hi, rfl, k⟩ := hrel
    by_cases hlt : i < xs.length
    · obtain ⟨b, off, rfl, hb, hc⟩ := HI.out.some (by omega)
      have hiI : (i : Int) < (xs.length : Int) := by omega
      have hpw : IntKind.i64.wrap ((i : Int) - 1) = (i : Int) - 1 := by rw [IntKind.wrap_i64]; omega
      have hpn : ((i : Int) - 1).toNat = i - 1 := by omega
      have hpl' : i - 1 < xs.length := by omega
      have hq1 : (1 : Int) ≤ (i : Int) := by omega
      have hq3 : (i : Int) ≤ (xs.length : Int) := by omega
      have hq4 : i ≤ xs.length := by omega
      have hp0 : (0 : Int) ≤ (i : Int) - 1 := by omega
      have hp1 : (i : Int) - 1 < (xs.length : Int) := by omega
      have hr := HR.out i hi0 hlt
      have c0 := k.cell (hc i hlt).1 (fun e => e)
      have c1 := k.cell (hc i hlt).2 (fun e => e)
      have d0 := k.cell (hc (i - 1) hpl').1 (fun e => e)
      have d1 := k.cell (hc (i - 1) hpl').2 (fun e => e)
      obtain ⟨x, hx⟩ : ∃ x, Hid (ia xs i = x) := ⟨_, rfl⟩
      obtain ⟨y, hy⟩ : ∃ y, Hid (ia xs (i - 1) = y) := ⟨_, rfl⟩
      rw [hx.out] at c0 c1 hr
      rw [hy.out] at d0 d1 hr
      obtain ⟨hr1, hr2⟩ := hr
      clear hc
      cases st with
      | false =>
        skip
        clear hr2
        go_wp2_with fail
        have C0 := ks_cell c0
        have C1 := ks_cell c1
        have D0 := ks_cell d0
        have D1 := ks_cell d1
        clear c0 c1 d0 d1
        have hNE : Nonempty (KS wr) := ⟨⟨wr, Keeps.refl _ wr⟩⟩
        refine wp_region_ks (by kernel_rfl) (by kernel_rfl) ?_
        repeat (go_big_quiet_step ((go_at_call 34; refine (lbefore_any _ x y).mono ?_; rw [hr1]; rintro e w2 ⟨rfl, k2⟩; exact ⟨rfl, ⟨_, Keeps.trans (KS.property _) k2⟩, rfl⟩)))
        refine wpQuiet_nil ?_
        rintro _ ⟨u, rfl⟩
        go_wp2_with fail
        go_roundw
        case rel => exact ⟨i + 1, by omega, .inl (by omega), by go_num, k.trans u.property⟩
        case measure => simp [intOf]; omega
      | true =>
        have hr3 : decide (x = y) = false := by simp [hr2 rfl]
        clear hr2
        go_wp2_with fail
        have C0 := ks_cell c0
        have C1 := ks_cell c1
        have D0 := ks_cell d0
        have D1 := ks_cell d1
        clear c0 c1 d0 d1
        have hNE : Nonempty (KS wr) := ⟨⟨wr, Keeps.refl _ wr⟩⟩
        refine wp_region_ks (by kernel_rfl) (by kernel_rfl) ?_
        repeat (go_big_quiet_step ((go_at_call 34; refine (lbefore_any _ x y).mono ?_; rw [hr1]; rintro e w2 ⟨rfl, k2⟩; exact ⟨rfl, ⟨_, Keeps.trans (KS.property _) k2⟩, rfl⟩)))
        refine wpQuiet_nil ?_
        rintro _ ⟨u, rfl⟩
        go_wp2_with fail
        go_roundw
        case rel => exact ⟨i + 1, by omega, .inl (by omega), by go_num, k.trans u.property⟩
        case measure => simp [intOf]; omega
    · have hiI : ¬ (i : Int) < (xs.length : Int) := by omega
      go_wp2
      go_ret
      exact ⟨rfl, k⟩

end Go.Proofs.Ytkebpelpjkgdkab
