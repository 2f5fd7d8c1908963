import Derived.Test.YthchbcfecconbaaGreatDoorSi
namespace Go.Proofs.YthchbcfecconbaaGreatDoor
open Go.RowKit Go.Deep Go.ChangeShapes Go.WideShapes Go.ChangeAt
attribute [local go_sem] Oper.semAt_some run_store_nf run_store_f
theorem alc_set {F : Nat → Rs × Nat} {S : Nat → Value} {i : Nat} (v : Value) : ∀ {k : Nat}, i < k → (alc F S k).set (i * 4 + 2) v = alc F (fun j => if j = i then v else S j) k
  | 0, h => by omega
  | k + 1, h => by
    rw [alc_succ, alc_succ]
    by_cases e : i = k
    · subst e
      rw [List.set_append_right _ _ (by rw [alc_len]; omega), alc_len, show i * 4 + 2 - i * 4 = 2 by omega, if_pos rfl, alc_congr (S := S) (T := fun j => if j = i then v else S j) (fun j hj => by rw [if_neg (by omega)])]
      rfl
    · rw [List.set_append_left _ _ (by rw [alc_len]; omega), alc_set v (by omega), if_neg (fun e' => e e'.symm)]
theorem own_cl {W : World} {base n size g cap : Nat} {e : TypeId} {l : List Value} (h : W.ownsRow base e size (.slice (some ⟨g, 0, none⟩) n cap) n l) : CL W g l := by
  have hc := h.cells (g := g) rfl
  rcases h.2 with ⟨e, _⟩ | ⟨g', cap', cur, e, hbg, hg, _⟩
  · cases e
  · injection e with e1 _ e2
    injection e1 with e1
    injection e1 with e1 _ _
    subst e1
    refine ⟨fun o v e => ?_, fun o _ => by simp [World.frozen?, hg]⟩
    have := hc o v e
    rw [add_at, Nat.zero_add] at this
    exact this
/-- Two numbers behind a list that is full: a new list. -/
theorem append_full2 {W : World} {b n : Nat} {xs : List Int} (hC : CL W b (nvs xs)) (hn : xs.length = n) (h16 : n ≤ 16) (x y : Int) :
    ∃ g c w', (Builtin.append_ #[23, 23] 23 #[.slice (some ⟨b, 0, none⟩) n n, .slice (some ⟨W.heap.size, 0, none⟩) 2 2]).run Tryz.prog (W.alloc (.cells #[.int .i64 x, .int .i64 y] 2)) = .ok (.slice (some ⟨g, 0, none⟩) (n + 2) c) w' ∧ NUM w' (some ⟨g, 0, none⟩) (xs ++ [x, y]) ∧ W.heap.size ≤ g ∧ g < w'.heap.size ∧ Keeps (fun _ => False) W w' := by
  obtain ⟨i0, hi0, hz0, hz1, hz2⟩ := iNumD
  have k0 : Keeps (fun _ => False) W (W.alloc (.cells #[.int .i64 x, .int .i64 y] 2)) := (Keeps.refl _ W).alloc _
  have hln : (nvs xs).length = n := by unfold nvs; rw [List.length_map, hn]
  have hfit : Builtin.nextslicecap (n + 2) n * i0.bytes ≤ 281474976710656 := by
    rw [hz2]
    have : Builtin.nextslicecap (n + 2) n ≤ 40 := by
      unfold Builtin.nextslicecap
      split
      · omega
      · split <;> omega
    omega
  have hr := run_append_grow (P := Tryz.prog) (w := W.alloc (.cells #[.int .i64 x, .int .i64 y] 2)) 23 23 2 i0 _ uNumsD hi0 hz0 ⟨b, 0, none⟩ n n (nvs xs) (by rw [hz1, hln]; omega) (fun j v hv => by rw [add_at, Nat.zero_add]; exact (hC.keep0 k0 (fun _ e => e)).c j v hv) ⟨W.heap.size, 0, none⟩ 2 2 [.int .i64 x, .int .i64 y] (by rw [hz1]; rfl) (fun j u hu => by
      rw [add_at]
      have := (CL.made W [.int .i64 x, .int .i64 y] 2).c j u hu
      simpa using this) (by omega) (by omega) hfit
  have hge := grownCap_ge (W.alloc (.cells #[.int .i64 x, .int .i64 y] 2)) (n + 2) n 2
  obtain ⟨v', w', hr', ho, kk⟩ : ∃ v' w', (Builtin.append_ #[23, 23] 23 #[.slice (some ⟨b, 0, none⟩) n n, .slice (some ⟨W.heap.size, 0, none⟩) 2 2]).run Tryz.prog (W.alloc (.cells #[.int .i64 x, .int .i64 y] 2)) = .ok v' w' ∧ w'.ownsRow W.heap.size 2 1 v' (n + 2) (nvs (xs ++ [x, y])) ∧ Keeps (fun _ => False) W w' := by
    refine ⟨_, _, hr, ⟨?_, .inr ⟨_, _, _, rfl, by simp, heap_alloc_new _ _, hge, grownCap_le_maxLen _ (n + 2) n 2 (by unfold maxLen; omega), ?_, ?_⟩⟩, (k0.drew).alloc _⟩
    · unfold nvs
      rw [List.length_map, List.length_append, hn]
      simp
    · simp only [Array.size_append, List.size_toArray, size_zeroCells]
      simp only [List.length_cons, List.length_nil, hln]
      simp [Value.cells]
      omega
    · rw [nvs_app]
      simp only [Array.toList_append]
      have e1 : (nvs xs ++ [Value.int .i64 x, Value.int .i64 y]).length = (n + 2) * 1 := by rw [List.length_append, hln]; simp
      rw [← e1]
      exact List.take_left
  obtain ⟨g, c, rfl, _, hg, hgl, hcs⟩ := own_some ho (by omega)
  exact ⟨g, c, w', hr', num_pre (ps := []) (by rw [List.append_nil]; exact hcs), hg, hgl, kk⟩
/-- Answers whose lists are being lengthened: the first i are. -/
structure AQ (W : World) (g N n i : Nat) (F : Nat → Rs × Nat) (S : Nat → Value) (B X C : Nat → Nat) : Prop where
  row : CL W g (alc F S N)
  hi : ∀ j, i ≤ j → j < N → S j = .slice (some ⟨B j, 0, none⟩) n n ∧ CL W (B j) (nvs (List.replicate n (j : Int))) ∧ B j ≠ g
  lo : ∀ j, j < i → S j = .slice (some ⟨X j, 0, none⟩) (n + 2) (C j) ∧ NUM W (some ⟨X j, 0, none⟩) (List.replicate (n + 2) (j : Int)) ∧ X j ≠ g
theorem AQ.keep {g N n i : Nat} {W W' : World} {F : Nat → Rs × Nat} {S : Nat → Value} {B X C : Nat → Nat} (h : AQ W g N n i F S B X C) (k : Keeps (fun _ => False) W W') : AQ W' g N n i F S B X C :=
  ⟨h.row.keep0 k (fun _ e => e), fun j h1 h2 => ⟨(h.hi j h1 h2).1, (h.hi j h1 h2).2.1.keep0 k (fun _ e => e), (h.hi j h1 h2).2.2⟩, fun j h1 => ⟨(h.lo j h1).1, (h.lo j h1).2.1.keep k, (h.lo j h1).2.2⟩⟩
theorem rep_two (n : Nat) (y : Int) : List.replicate n y ++ [y, y] = List.replicate (n + 2) y := by
  rw [show ([y, y] : List Int) = List.replicate 2 y from rfl, List.replicate_append_replicate]
theorem AQ.next {g N n i : Nat} {W : World} {F : Nat → Rs × Nat} {S : Nat → Value} {B X C : Nat → Nat} (h : AQ W g N n i F S B X C) (hiN : i < N) (h16 : n ≤ 16) (hgl : g < W.heap.size) :
    ∃ x c w', (Builtin.append_ #[23, 23] 23 #[.slice (some ⟨B i, 0, none⟩) n n, .slice (some ⟨W.heap.size, 0, none⟩) 2 2]).run Tryz.prog (W.alloc (.cells #[.int .i64 (i : Int), .int .i64 (i : Int)] 2)) = .ok (.slice (some ⟨x, 0, none⟩) (n + 2) c) w' ∧ Keeps (fun _ => False) W w' ∧ (w'.cell? ⟨g, i * 4 + 2, none⟩ = some (.slice (some ⟨B i, 0, none⟩) n n) ∧ w'.frozen? ⟨g, i * 4 + 2, none⟩ = false) ∧ AQ (w'.setCell ⟨g, i * 4 + 2, none⟩ (.slice (some ⟨x, 0, none⟩) (n + 2) c)) g N n (i + 1) F (fun j => if j = i then .slice (some ⟨x, 0, none⟩) (n + 2) c else S j) B (fun j => if j = i then x else X j) (fun j => if j = i then c else C j) := by
  obtain ⟨e1, c1, b1⟩ := h.hi i (Nat.le_refl _) hiN
  obtain ⟨x, c, w', hr, hN, hx, hxl, kk⟩ := append_full2 c1 (List.length_replicate) h16 (i : Int) (i : Int)
  rw [rep_two] at hN
  have h' := h.keep kk
  have hl : i * 4 + 2 < (alc F S N).length := by rw [alc_len]; omega
  have hcell := h'.row.c (i * 4 + 2) _ (alc_get F S hiN 2 _ rfl)
  rw [e1] at hcell
  have kw : Keeps (fun b => b = g) w' (w'.setCell ⟨g, i * 4 + 2, none⟩ (.slice (some ⟨x, 0, none⟩) (n + 2) c)) := (Keeps.refl (fun b => b = g) w').setCell (p := ⟨g, i * 4 + 2, none⟩) (fun _ => rfl) _
  refine ⟨x, c, w', hr, kk, ⟨hcell, h'.row.z _ hl⟩, ⟨?_, fun j h1 h2 => ?_, fun j h1 => ?_⟩⟩
  · rw [← alc_set _ hiN]
    exact h'.row.set hl _
  · rw [if_neg (by omega)]
    obtain ⟨f1, f2, f3⟩ := h'.hi j (by omega) h2
    exact ⟨f1, f2.keep0 kw (fun _ => f3), f3⟩
  · by_cases e : j = i
    · subst e
      rw [if_pos rfl, if_pos rfl, if_pos rfl]
      exact ⟨rfl, hN.keepN kw (fun b off e => by cases e; show ¬ x = g; omega), by omega⟩
    · rw [if_neg e, if_neg e, if_neg e]
      obtain ⟨f1, f2, f3⟩ := h'.lo j (by omega)
      exact ⟨f1, f2.keepN kw (fun b off e => by cases e; exact f3), f3⟩
theorem run_fine_c {w w' : World} {p : List Ins} {os : List Int} {fuel : Int} {v : Value} {x : Int} (h : RunP w w' p os [] fuel v x) (h0 : (chk p).1 = 0) (h1 : rfs os.length 0 fuel = 0) : x = 0 ∧ AN w w' os (gor p os [] fuel.toNat 0 rs0) v := by
  rcases h with ⟨h, _⟩ | ⟨_, h, _⟩ | ⟨_, _, e, h⟩
  · exact absurd h0 h
  · exact absurd h1 h
  · exact ⟨e, h⟩
end Go.Proofs.YthchbcfecconbaaGreatDoor
