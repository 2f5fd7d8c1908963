import Derived.Test.YtgfjhogogajbjabSchPlan
namespace Go.Proofs.Ytgfjhogogajbjab
open Go.RowKit Go.Shelf

theorem rfzZero {n : Int} {m : Nat} (h : rfz n m = 0) : (1 ≤ n ∧ n ≤ 6) ∧ m ≤ 4096 := by
  unfold rfz at h
  split at h
  · omega
  · split at h <;> omega
theorem rfzNot {n : Int} {m : Nat} (h : rfz n m ≠ 0) : rfz n m = 40 ∨ rfz n m = 41 := by
  unfold rfz at h ⊢
  split
  · exact .inl rfl
  · rename_i h1
    rw [if_neg h1] at h
    split
    · exact .inr rfl
    · rename_i h2; rw [if_neg h2] at h; exact absurd rfl h

set_option maxHeartbeats 1600000 in
set_option maxRecDepth 1000000 in
theorem takenOf (w : World) (n : Int) (a : Option Addr) (m cap : Nat) : Calls Try.prog 7 #[.int .i64 n, .slice a m cap] w fun e w' => e = .returned (.bool (decide (rfz n m = 0))) ∧ w' = w := by
  go_enter Try.func7, Try.ntmps7
  by_cases h1 : n < 1
  · have e : decide (rfz n m = 0) = false := by unfold rfz; rw [if_pos (.inl h1)]; rfl
    have h1' : ¬ 1 ≤ n := by omega
    go_wp2
    go_ret
    first | exact ⟨rfl, rfl⟩ | exact ⟨by rw [e]; rfl, rfl⟩
  · by_cases h2 : 6 < n
    · have e : decide (rfz n m = 0) = false := by unfold rfz; rw [if_pos (.inr h2)]; rfl
      have h1' : 1 ≤ n := by omega
      have h2' : ¬ n ≤ 6 := by omega
      go_wp2
      go_ret
      first | exact ⟨rfl, rfl⟩ | exact ⟨by rw [e]; rfl, rfl⟩
    · by_cases h3 : 4096 < m
      · have e : decide (rfz n m = 0) = false := by unfold rfz; rw [if_neg (by omega), if_pos h3]; rfl
        have h1' : 1 ≤ n := by omega
        have h2' : n ≤ 6 := by omega
        have h3' : ¬ (m : Int) ≤ 4096 := by omega
        go_wp2
        go_ret
        first | exact ⟨rfl, rfl⟩ | exact ⟨by rw [e]; rfl, rfl⟩
      · have e : decide (rfz n m = 0) = true := by unfold rfz; rw [if_neg (by omega), if_neg h3]; rfl
        have h1' : 1 ≤ n := by omega
        have h2' : n ≤ 6 := by omega
        have h3' : (m : Int) ≤ 4096 := by omega
        go_wp2
        go_ret
        first | exact ⟨rfl, rfl⟩ | exact ⟨by rw [e]; rfl, rfl⟩
set_option maxHeartbeats 1600000 in
set_option maxRecDepth 1000000 in
theorem lawNamed (w : World) (n : Nat) (p : Int) : Calls Try.prog 10 #[.int .i64 (n : Int), .int .i64 p] w fun e w' => e = .returned (.int .i64 (nmz n p)) ∧ w' = w := by
  go_enter Try.func10, Try.ntmps10
  by_cases h1 : p < 0
  · have e : nmz n p = -1 := if_pos (.inl h1)
    go_wp2
    go_ret
    first | exact ⟨rfl, rfl⟩ | exact ⟨by rw [e]; rfl, rfl⟩
  · by_cases h2 : (n : Int) ≤ p
    · have e : nmz n p = -1 := if_pos (.inr h2)
      go_wp2
      go_ret
      first | exact ⟨rfl, rfl⟩ | exact ⟨by rw [e]; rfl, rfl⟩
    · have e : nmz n p = p := if_neg (by omega)
      go_wp2
      go_ret
      first | exact ⟨rfl, rfl⟩ | exact ⟨by rw [e]; rfl, rfl⟩

theorem NL.below {w W : World} {a : Option Addr} {n : Nat} {z : Nat → Int} (h : NL w a n z) (k : Below w.heap.size w W) : NL W a n z := by
  rcases h with h | ⟨b, off, rfl, hb, h⟩
  · exact .inl h
  · exact .inr ⟨b, off, rfl, Nat.lt_of_lt_of_le hb k.size, fun i hi => (World.cell?_of_block (a := ⟨b, off + i, none⟩) (k.block b hb)).trans (h i hi)⟩

theorem pick_some {w : World} {a : Option Addr} {n : Nat} {z : Nat → Int} (h : NL w a n z) {i : Nat} (hi : i < n) : ∃ b off, a = some ⟨b, off, none⟩ := by
  obtain ⟨b, off, e, _⟩ := h.some (by omega)
  exact ⟨b, off, e⟩
theorem pick_at {w W : World} {b off : Nat} {n : Nat} {z : Nat → Int} (h : NL w (some ⟨b, off, none⟩) n z) (k : Below w.heap.size w W) {i : Nat} (hi : i < n) : W.cell? ⟨b, off + i, none⟩ = some (.int .i64 (z i)) := by
  obtain ⟨b', off', e, _, hc⟩ := (h.below k).some (by omega)
  cases e
  exact hc i hi
theorem end_at {w W : World} {a : Option Addr} {n : Nat} {z : Nat → Int} (h : NL w a n z) (k : Below w.heap.size w W) {i : Nat} (hi : i < n) : ∃ b off, a = some ⟨b, off, none⟩ ∧ W.cell? ⟨b, off + i, none⟩ = some (.int .i64 (z i)) := by
  obtain ⟨b, off, rfl⟩ := pick_some h hi
  exact ⟨b, off, rfl, pick_at h k hi⟩
/-- The plan and the array over. -/
structure ShI (w W : World) (pb ob : Nat) (vs : Value) (nt m : Nat) (f : Nat → Int) (k : Nat) (fin : Nat → Bool) : Prop where
  pl : PL W pb vs nt m f k fin
  ov : ∀ t, t < 6 → W.cell? ⟨ob, t, none⟩ = some (.bool (fin t))
  oz : ∀ t, t < 6 → W.frozen? ⟨ob, t, none⟩ = false
  ne : ob ≠ pb
  nv : ∀ g, vs.ownBlock = some g → g ≠ ob
  lp : w.heap.size ≤ pb
  lo : w.heap.size ≤ ob
  lv : ∀ g, vs.ownBlock = some g → w.heap.size ≤ g
  bel : Below w.heap.size w W
section
variable {w W W' : World} {pb ob : Nat} {vs : Value} {nt m : Nat} {f : Nat → Int} {k : Nat} {fin : Nat → Bool}
theorem ShI.lto (h : ShI w W pb ob vs nt m f k fin) : ob < W.heap.size := World.block_lt_of_cell? _ _ (h.ov 0 (by omega))
theorem ShI.new (h : ShI w W pb ob vs nt m f k fin) (kp : Keeps (fun _ => False) W W') : ShI w W' pb ob vs nt m f k fin :=
  ⟨h.pl.new kp, fun t ht => kp.cell (h.ov t ht) (fun e => e), fun t ht => (kp.frozen (p := ⟨ob, t, none⟩) h.lto (fun e => e)).trans (h.oz t ht), h.ne, h.nv, h.lp, h.lo, h.lv, h.bel.trans (kp.below h.bel.size (fun _ _ e => e))⟩
theorem ShI.go (h : ShI w W pb ob vs nt m f k fin) {k' : Nat} (kp : Keeps (fun i => i = pb) W W') (hp : PL W' pb vs nt m f k' fin) : ShI w W' pb ob vs nt m f k' fin :=
  ⟨hp, fun t ht => kp.cell (h.ov t ht) h.ne, fun t ht => (kp.frozen (p := ⟨ob, t, none⟩) h.lto h.ne).trans (h.oz t ht), h.ne, h.nv, h.lp, h.lo, h.lv, h.bel.trans (kp.below h.bel.size (fun i hi e => by have := h.lp; omega))⟩
theorem ShI.fin_ (h : ShI w W pb ob vs nt m f k fin) {t : Nat} (ht : t < 6) (kp : Keeps (fun i => i = pb) (W.setCell ⟨ob, t, none⟩ (.bool true)) W') (hp : PL W' pb vs nt m f k (upd fin t)) : ShI w W' pb ob vs nt m f k (upd fin t) := by
  have k1 : Keeps (fun i => i = ob) W (W.setCell ⟨ob, t, none⟩ (.bool true)) := (Keeps.refl (fun i => i = ob) W).setCell (p := ⟨ob, t, none⟩) (fun _ => rfl) _
  have hl := Nat.lt_of_lt_of_le h.lto k1.size
  refine ⟨hp, fun u hu => kp.cell ?_ h.ne, fun u hu => (kp.frozen (p := ⟨ob, u, none⟩) hl h.ne).trans (by rw [World.frozen?_setCell]; exact h.oz u hu), h.ne, h.nv, h.lp, h.lo, h.lv, h.bel.trans ((k1.below h.bel.size (fun i hi e => by have := h.lo; omega)).trans (kp.below (Nat.le_trans h.bel.size k1.size) (fun i hi e => by have := h.lp; omega)))⟩
  unfold upd
  by_cases e : u = t
  · subst e; rw [if_pos rfl]; exact World.cell?_setCell_same (h := h.ov u hu) ..
  · rw [if_neg e, World.cell?_setCell_other (h := fun e' => e (by simp only [Addr.mk.injEq] at e'; omega))]; exact h.ov u hu
end

set_option maxHeartbeats 6400000 in
set_option maxRecDepth 1000000 in
theorem shares_walk {w : World} (n : Int) (hn : I64 n) {a a2 : Option Addr} {m m2 : Nat} {z z2 : Nat → Int} (h1 : NL w a m z) (hz1 : ∀ i, i < m → I64 (z i)) (hb1 : m ≤ 9223372036854775807) (cap : Nat) (h2 : NL w a2 m2 z2) (_hz2 : ∀ i, i < m2 → I64 (z2 i)) (hb2 : m2 ≤ 9223372036854775807) (cap2 : Nat) :
    Calls Try.prog 3 #[.int .i64 n, .slice a m cap, .slice a2 m2 cap2] w fun e w' => e = .returned (.bool true) ∧ Below w.heap.size w w' := by
  have ht := fun w => takenOf w n a m cap
  by_cases hz : rfz n m = 0
  · have hzb : decide (rfz n m = 0) = true := decide_eq_true hz
    rw [hzb] at ht
    obtain ⟨hnb, hm⟩ := rfzZero hz
    obtain ⟨nt, rfl⟩ : ∃ nt : Nat, n = (nt : Int) := ⟨n.toNat, by omega⟩
    have hn1 : 1 ≤ nt := by omega
    have hn6 : nt ≤ 6 := by omega
    have hnew := new_any h1 cap ⟨hn1, hn6⟩ hm
    clear hz hzb hnb hn
    go_enter Try.func3, Try.ntmps3
    go_wp2_with (first | (go_at_call 6; refine hnew.mono ?_; clear hnew; rintro e w1 ⟨pb, vs, rfl, hP, hlp, hlv, k1⟩) | (go_at_call 7; refine (ht _).mono ?_; rintro e w1 ⟨rfl, rfl⟩))
    have K0 : Keeps (fun _ => False) w1 (w1.alloc (.cells #[.bool false, .bool false, .bool false, .bool false, .bool false, .bool false] 29)) := (Keeps.refl _ w1).alloc _
    have hob : w.heap.size ≤ w1.heap.size := k1.size
    have S0 : ShI w (w1.alloc (.cells #[.bool false, .bool false, .bool false, .bool false, .bool false, .bool false] 29)) pb w1.heap.size vs nt m (nmf nt z) 0 (fun _ => false) := {
      pl := hP.new K0
      ov := fun t ht => by rcases (by omega : t = 0 ∨ t = 1 ∨ t = 2 ∨ t = 3 ∨ t = 4 ∨ t = 5) with rfl | rfl | rfl | rfl | rfl | rfl <;> simp
      oz := fun t _ => by simp
      ne := Ne.symm (Nat.ne_of_lt hP.lt)
      nv := fun g e => Nat.ne_of_lt (owns_lt' hP.nm g e)
      lp := hlp
      lo := hob
      lv := hlv
      bel := (k1.trans K0).below (Nat.le_refl _) (fun _ _ e => e) }
    clear hP k1 K0 ht hlp hlv hob
    generalize w1.heap.size = ob at S0 ⊢
    generalize w1.alloc _ = W0 at S0 ⊢
    clear w1
    go_loopw [10] (fun i W => ∃ (k : Nat) (fin : Nat → Bool), k ≤ m ∧ i = .int .i64 (k : Int) ∧ ShI w W pb ob vs nt m (nmf nt z) k fin) (fun i _ => m - (intOf i).toNat)
    case atStart => exact ⟨0, _, Nat.zero_le _, rfl, S0⟩
    case round =>
      obtain ⟨k, fin, hk, rfl, hS⟩ := hrel
      by_cases hlt : k < m
      · have hltI : (k : Int) < (m : Int) := by omega
        have hk0 : (0 : Int) ≤ (k : Int) := by omega
        have hL := left_any hS.pl hk hm
        have hlo := nmz_lo nt (z k)
        have hhi := nmz_hi nt (z k)
        have hnm := fun w => lawNamed w nt (z k)
        have hf : -1 ≤ nmf nt z k ∧ nmf nt z k < nt := ⟨hlo, hhi⟩
        obtain ⟨b1, off1, rfl⟩ := pick_some h1 hlt
        obtain ⟨th, hth⟩ : ∃ th, nmf nt z k = th := ⟨_, rfl⟩
        have hth' : nmz nt (z k) = th := hth
        rw [hth'] at hnm hlo hhi
        clear S0
        by_cases hx : th = -1
        · have htu : turn th fin = th := if_neg (fun e => e.1 hx)
          have hxb : ¬ (0 : Int) ≤ th := by omega
          have hxc : decide ((0 : Int) ≤ th) = false := decide_eq_false hxb
          clear hx
          go_wp2_with (first | (go_at_call 8; refine hL.mono ?_; clear hL; rintro e w2 ⟨rfl, k2⟩; have hS2 := hS.new k2; have hN := next_any hS2.pl hlt hm hn6 hf; rw [hth, htu] at hN) | (go_at_call 9; refine hN.mono ?_; clear hN; rintro e w3 ⟨rfl, hP3, k3⟩; have hS3 : ShI w w3 pb ob vs nt m (nmf nt z) (k + 1) fin := hS2.go k3 hP3; have pk := fun o => ((Keeps.refl (fun _ => False) w3).alloc o).cell (pick_at h1 hS3.bel hlt) (fun e => e)) | (go_at_call 10; refine (hnm _).mono ?_; rintro e w4 ⟨rfl, hw4⟩; subst hw4))
          clear hth hth' htu hnm hf
          go_loopw [14] (fun j W => ∃ (t : Nat) (fin' : Nat → Bool), t ≤ nt ∧ j = .int .i64 (t : Int) ∧ ShI w W pb ob vs nt m (nmf nt z) (k + 1) fin') (fun j _ => nt - (intOf j).toNat)
          case atStart => exact ⟨0, fin, Nat.zero_le _, rfl, hS3.new ((Keeps.refl _ _).alloc _)⟩
          case round =>
            obtain ⟨t, fin', htn, rfl, hT⟩ := hrel
            clear pk
            by_cases h1t : t < nt
            · have h1I : (t : Int) < (nt : Int) := by omega
              by_cases h2t : t < m2
              · have h2I : (t : Int) < (m2 : Int) := by omega
                obtain ⟨b2, off2, rfl, c2⟩ := end_at h2 hT.bel h2t
                have t0 : (0 : Int) ≤ (t : Int) := by omega
                have t6 : (t : Int) < 6 := by omega
                by_cases he : z2 t = (k : Int)
                · have heb : (z2 t == (k : Int)) = true := by simp [he]
                  have HE := (show Hid _ from he)
                  have ot := hT.ov t (by omega)
                  have oz := hT.oz t (by omega)
                  have hF := finish_any (hT.pl.keeps ((Keeps.refl (fun i => i = ob) wr).setCell (p := ⟨ob, t, none⟩) (fun _ => rfl) (.bool true)) (Ne.symm hT.ne) hT.nv) hn6 h1t
                  clear he
                  go_wp2_with ((go_at_call 11; refine hF.mono ?_; clear hF; rintro e w6 ⟨rfl, hP6, k6⟩))
                  go_roundw
                  case rel => exact ⟨t + 1, _, by omega, by go_num, hT.fin_ (by omega) k6 hP6⟩
                  case measure => simp [intOf]; omega
                · have heb : (z2 t == (k : Int)) = false := by simp [he]
                  go_wp2
                  go_roundw
                  case rel => exact ⟨t + 1, _, by omega, by go_num, hT⟩
                  case measure => simp [intOf]; omega
              · have h2I : ¬ (t : Int) < (m2 : Int) := by omega
                have h2b : decide (t < m2) = false := decide_eq_false h2t
                go_wp2
                go_roundw
                case rel => exact ⟨k + 1, _, by omega, by go_num, hT⟩
                case measure => simp [intOf]; omega
            · have h1I : ¬ (t : Int) < (nt : Int) := by omega
              have h1b : decide (t < nt) = false := decide_eq_false h1t
              go_wp2
              go_roundw
              case rel => exact ⟨k + 1, _, by omega, by go_num, hT⟩
              case measure => simp [intOf]; omega
        · obtain ⟨u, hue⟩ : ∃ u : Nat, th = (u : Int) := ⟨th.toNat, by omega⟩
          have hu6 : u < 6 := by omega
          have huI : (u : Int) < 6 := by omega
          have hu0 : (0 : Int) ≤ (u : Int) := by omega
          subst hue
          by_cases hfin : fin u = true
          · have htu : turn (u : Int) fin = -1 := if_pos ⟨hx, hfin⟩
            clear hx
            go_wp2_with (first | (go_at_call 8; refine hL.mono ?_; clear hL; rintro e w2 ⟨rfl, k2⟩; have hS2 := hS.new k2; have hN := next_any hS2.pl hlt hm hn6 hf; rw [hth, htu] at hN) | (go_at_call 9; refine hN.mono ?_; clear hN; rintro e w3 ⟨rfl, hP3, k3⟩; have hS3 : ShI w w3 pb ob vs nt m (nmf nt z) (k + 1) fin := hS2.go k3 hP3; have pk := fun o => ((Keeps.refl (fun _ => False) w3).alloc o).cell (pick_at h1 hS3.bel hlt) (fun e => e); have ov := fun o => ((Keeps.refl (fun _ => False) w3).alloc o).cell ((hS3.ov u hu6).trans (by rw [hfin])) (fun e => e)) | (go_at_call 10; refine (hnm _).mono ?_; rintro e w4 ⟨rfl, hw4⟩; subst hw4))
            clear hth hth' htu hnm hf
            go_loopw [14] (fun j W => ∃ (t : Nat) (fin' : Nat → Bool), t ≤ nt ∧ j = .int .i64 (t : Int) ∧ ShI w W pb ob vs nt m (nmf nt z) (k + 1) fin') (fun j _ => nt - (intOf j).toNat)
            case atStart => exact ⟨0, fin, Nat.zero_le _, rfl, hS3.new ((Keeps.refl _ _).alloc _)⟩
            case round =>
              obtain ⟨t, fin', htn, rfl, hT⟩ := hrel
              clear pk
              by_cases h1t : t < nt
              · have h1I : (t : Int) < (nt : Int) := by omega
                by_cases h2t : t < m2
                · have h2I : (t : Int) < (m2 : Int) := by omega
                  obtain ⟨b2, off2, rfl, c2⟩ := end_at h2 hT.bel h2t
                  have t0 : (0 : Int) ≤ (t : Int) := by omega
                  have t6 : (t : Int) < 6 := by omega
                  by_cases he : z2 t = (k : Int)
                  · have heb : (z2 t == (k : Int)) = true := by simp [he]
                    have HE := (show Hid _ from he)
                    have ot := hT.ov t (by omega)
                    have oz := hT.oz t (by omega)
                    have hF := finish_any (hT.pl.keeps ((Keeps.refl (fun i => i = ob) wr).setCell (p := ⟨ob, t, none⟩) (fun _ => rfl) (.bool true)) (Ne.symm hT.ne) hT.nv) hn6 h1t
                    clear he
                    go_wp2_with ((go_at_call 11; refine hF.mono ?_; clear hF; rintro e w6 ⟨rfl, hP6, k6⟩))
                    go_roundw
                    case rel => exact ⟨t + 1, _, by omega, by go_num, hT.fin_ (by omega) k6 hP6⟩
                    case measure => simp [intOf]; omega
                  · have heb : (z2 t == (k : Int)) = false := by simp [he]
                    go_wp2
                    go_roundw
                    case rel => exact ⟨t + 1, _, by omega, by go_num, hT⟩
                    case measure => simp [intOf]; omega
                · have h2I : ¬ (t : Int) < (m2 : Int) := by omega
                  have h2b : decide (t < m2) = false := decide_eq_false h2t
                  go_wp2
                  go_roundw
                  case rel => exact ⟨k + 1, _, by omega, by go_num, hT⟩
                  case measure => simp [intOf]; omega
              · have h1I : ¬ (t : Int) < (nt : Int) := by omega
                have h1b : decide (t < nt) = false := decide_eq_false h1t
                go_wp2
                go_roundw
                case rel => exact ⟨k + 1, _, by omega, by go_num, hT⟩
                case measure => simp [intOf]; omega
          · have hfin' : fin u = false := by simpa using hfin
            have htu : turn (u : Int) fin = (u : Int) := if_neg (fun e => hfin e.2)
            clear hx hfin
            go_wp2_with (first | (go_at_call 8; refine hL.mono ?_; clear hL; rintro e w2 ⟨rfl, k2⟩; have hS2 := hS.new k2; have hN := next_any hS2.pl hlt hm hn6 hf; rw [hth, htu] at hN) | (go_at_call 9; refine hN.mono ?_; clear hN; rintro e w3 ⟨rfl, hP3, k3⟩; have hS3 : ShI w w3 pb ob vs nt m (nmf nt z) (k + 1) fin := hS2.go k3 hP3; have pk := fun o => ((Keeps.refl (fun _ => False) w3).alloc o).cell (pick_at h1 hS3.bel hlt) (fun e => e); have ov := fun o => ((Keeps.refl (fun _ => False) w3).alloc o).cell ((hS3.ov u hu6).trans (by rw [hfin'])) (fun e => e)) | (go_at_call 10; refine (hnm _).mono ?_; rintro e w4 ⟨rfl, hw4⟩; subst hw4))
            clear hth hth' htu hnm hf
            go_loopw [14] (fun j W => ∃ (t : Nat) (fin' : Nat → Bool), t ≤ nt ∧ j = .int .i64 (t : Int) ∧ ShI w W pb ob vs nt m (nmf nt z) (k + 1) fin') (fun j _ => nt - (intOf j).toNat)
            case atStart => exact ⟨0, fin, Nat.zero_le _, rfl, hS3.new ((Keeps.refl _ _).alloc _)⟩
            case round =>
              obtain ⟨t, fin', htn, rfl, hT⟩ := hrel
              clear pk
              by_cases h1t : t < nt
              · have h1I : (t : Int) < (nt : Int) := by omega
                by_cases h2t : t < m2
                · have h2I : (t : Int) < (m2 : Int) := by omega
                  obtain ⟨b2, off2, rfl, c2⟩ := end_at h2 hT.bel h2t
                  have t0 : (0 : Int) ≤ (t : Int) := by omega
                  have t6 : (t : Int) < 6 := by omega
                  by_cases he : z2 t = (k : Int)
                  · have heb : (z2 t == (k : Int)) = true := by simp [he]
                    have HE := (show Hid _ from he)
                    have ot := hT.ov t (by omega)
                    have oz := hT.oz t (by omega)
                    have hF := finish_any (hT.pl.keeps ((Keeps.refl (fun i => i = ob) wr).setCell (p := ⟨ob, t, none⟩) (fun _ => rfl) (.bool true)) (Ne.symm hT.ne) hT.nv) hn6 h1t
                    clear he
                    go_wp2_with ((go_at_call 11; refine hF.mono ?_; clear hF; rintro e w6 ⟨rfl, hP6, k6⟩))
                    go_roundw
                    case rel => exact ⟨t + 1, _, by omega, by go_num, hT.fin_ (by omega) k6 hP6⟩
                    case measure => simp [intOf]; omega
                  · have heb : (z2 t == (k : Int)) = false := by simp [he]
                    go_wp2
                    go_roundw
                    case rel => exact ⟨t + 1, _, by omega, by go_num, hT⟩
                    case measure => simp [intOf]; omega
                · have h2I : ¬ (t : Int) < (m2 : Int) := by omega
                  have h2b : decide (t < m2) = false := decide_eq_false h2t
                  go_wp2
                  go_roundw
                  case rel => exact ⟨k + 1, _, by omega, by go_num, hT⟩
                  case measure => simp [intOf]; omega
              · have h1I : ¬ (t : Int) < (nt : Int) := by omega
                have h1b : decide (t < nt) = false := decide_eq_false h1t
                go_wp2
                go_roundw
                case rel => exact ⟨k + 1, _, by omega, by go_num, hT⟩
                case measure => simp [intOf]; omega
      · obtain rfl : k = m := by omega
        have hltI : ¬ (k : Int) < (k : Int) := by omega
        clear S0
        go_wp2
        go_loopw [15] (fun j W => ∃ t : Nat, t ≤ nt ∧ j = .int .i64 (t : Int) ∧ ShI w W pb ob vs nt k (nmf nt z) k fin) (fun j _ => nt - (intOf j).toNat)
        case atStart => exact ⟨0, Nat.zero_le _, rfl, hS⟩
        case round =>
          obtain ⟨t, htn, rfl, hT⟩ := hrel
          by_cases h1t : t < nt
          · have h1I : (t : Int) < (nt : Int) := by omega
            have t0 : (0 : Int) ≤ (t : Int) := by omega
            have t6 : (t : Int) < 6 := by omega
            have ot := hT.ov t (by omega)
            have hF := finished_any hT.pl hn6 h1t
            go_wp2_with ((go_at_call 12; refine hF.mono ?_; clear hF; rintro e w6 ⟨rfl, hw6⟩; subst hw6))
            go_roundw
            case rel => exact ⟨t + 1, by omega, by go_num, hT⟩
            case measure => simp [intOf]; omega
          · have h1I : ¬ (t : Int) < (nt : Int) := by omega
            have h1b : decide (t < nt) = false := decide_eq_false h1t
            have hN := next_done (w := wr) (p := some ⟨pb, 0, none⟩) (fun o => by
              have := left_any (hT.pl.new ((Keeps.refl _ wr).alloc o)) (Nat.le_refl _) hm
              rw [Int.sub_self] at this
              exact this)
            go_wp2_with (first | (go_at_call 9; refine hN.mono ?_; clear hN; rintro e w7 ⟨rfl, k7⟩; have hL := fun o => (left_any (hT.pl.new (k7.alloc o)) (Nat.le_refl _) hm); (simp only [Int.sub_self] at hL)) | (go_at_call 8; refine (hL _).mono ?_; rintro e w8 ⟨rfl, k8⟩))
            go_ret
            exact ⟨rfl, hT.bel.trans (((k7.alloc _).trans k8).below hT.bel.size (fun _ _ e => e))⟩
  · have hzb : decide (rfz n m = 0) = false := decide_eq_false hz
    rw [hzb] at ht
    have hnew := new_no w n a m cap hz
    rcases rfzNot hz with e | e <;> rw [e] at hnew <;> clear e hz hzb
    · go_enter Try.func3, Try.ntmps3
      go_wp2_with (first | (go_at_call 6; refine hnew.mono ?_; clear hnew; rintro e w1 ⟨rfl, rfl⟩) | (go_at_call 7; refine (ht _).mono ?_; rintro e w1 ⟨rfl, rfl⟩))
      go_ret
      exact ⟨rfl, Below.refl _ _⟩
    · go_enter Try.func3, Try.ntmps3
      go_wp2_with (first | (go_at_call 6; refine hnew.mono ?_; clear hnew; rintro e w1 ⟨rfl, rfl⟩) | (go_at_call 7; refine (ht _).mono ?_; rintro e w1 ⟨rfl, rfl⟩))
      go_ret
      exact ⟨rfl, Below.refl _ _⟩
end Go.Proofs.Ytgfjhogogajbjab
