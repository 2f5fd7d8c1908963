import Derived.Test.YtgjndhbfjofkeaaGreatDoorG27
namespace Go.Proofs.YtgjndhbfjofkeaaGreatDoor
open Go.RowKit
attribute [local go_sem] Oper.semAt_some run_store_nf run_store_f
def isOut (e : Int) : Bool := e == 1 || e == 2 || e == 3
def Tr.out (T : Tr) (e : Int) : Tr := if isOut e = true then { T with oc := e } else T
def Ro.go (r : Ro) (T : Tr) : Ro := { r with job := T.jb, try_ := T.tr }
section
variable {w w' : World} {ρ ρ' ρ'' : Nat → Nat} {u j : Nat} {c : Sc} {ab rb n n' : Nat} {x x' : Tx} {f f' : Int → Option Nat} {s s' : Ws} {m m' : Mm} {r r' : Ro} {g nd kr kd t tb mb wb gb db : Nat} {xs : Nat → Int} {rs rs' : List Rd} {p : Int} {T : Tr}
set_option maxHeartbeats 800000 in
set_option maxRecDepth 1000000 in
theorem isOut_any (w : World) (e : Int) : Calls Tryz.prog 78 #[.int .i64 e] w fun e' w' => e' = .returned (.bool (isOut e)) ∧ w' = w := by
  unfold isOut
  by_cases h1 : e = 1
  · subst h1
    go_enter Tryz.func78, Tryz.ntmps78
    go_wp2
    go_ret
    exact ⟨rfl, rfl⟩
  · have b1 : (e == 1) = false := beq_eq_false_iff_ne.2 h1
    rw [b1]
    by_cases h2 : e = 2
    · subst h2
      go_enter Tryz.func78, Tryz.ntmps78
      go_wp2
      go_ret
      exact ⟨rfl, rfl⟩
    · have b2 : (e == 2) = false := beq_eq_false_iff_ne.2 h2
      rw [b2]
      clear h1 h2
      simp only [Bool.or_self, Bool.false_or]
      go_enter Tryz.func78, Tryz.ntmps78
      go_wp2
      go_ret
      exact ⟨rfl, rfl⟩
set_option maxHeartbeats 800000 in
set_option maxRecDepth 1000000 in
theorem t_goOn {Q : Ro → World → Prop} (h : CL w tb (T.cells mb wb gb db)) (ha : apv T.a = .pointer (some ⟨ab, 0, none⟩))
    (hs : Calls Tryz.prog 77 #[.pointer (some ⟨ab, 0, none⟩)] (w.alloc (.cells #[.int .i64 0, .int .i64 0, .int .i64 0, .int .i64 0, .int .i64 0, .int .i64 0, .int .i64 0, .int .i64 0, .int .i64 0, .int .i64 0, .int .i64 0, .int .i64 0, .int .i64 0, .bool false, .bool false, .bool false, .int .i64 0, .bool false, .int .i64 0, .int .i64 0, .bool false, .bool false, .int .i64 0, .int .i64 0, .bool false, .int .i64 0] 36)) fun e w' => ∃ r : Ro, e = .returned (.tuple #[.agg r.cells.toArray, .int .i64 0]) ∧ Q r w' ∧ CL w' tb (T.cells mb wb gb db) ∧ CL w' w.heap.size Ro.zero.cells) :
    Calls Tryz.prog 56 #[.pointer (some ⟨tb, 0, none⟩)] w fun e w'' => ∃ r w1, Q r w1 ∧ e = .returned (.tuple #[.agg (r.go T).cells.toArray, .int .i64 0]) ∧ CL w'' tb ((T.out r.fin).cells mb wb gb db) ∧ Keeps (fun k => k = tb ∨ k = w.heap.size) w1 w'' := by
  have K0 : Keeps (fun _ => False) w (w.alloc (.cells #[.int .i64 0, .int .i64 0, .int .i64 0, .int .i64 0, .int .i64 0, .int .i64 0, .int .i64 0, .int .i64 0, .int .i64 0, .int .i64 0, .int .i64 0, .int .i64 0, .int .i64 0, .bool false, .bool false, .bool false, .int .i64 0, .bool false, .int .i64 0, .int .i64 0, .bool false, .bool false, .int .i64 0, .int .i64 0, .bool false, .int .i64 0] 36)) := (Keeps.refl _ w).alloc _
  have hp := t_present (h.keep (by show 0 < 13; decide) K0 (fun e => e))
  rw [ha] at hp
  have ltb : tb < w.heap.size := h.lt (by show 0 < 13; decide)
  clear h ha
  go_enter Tryz.func56, Tryz.ntmps56
  go_wp2_with fail
  refine hp.mono ?_
  rintro e w0 ⟨rfl, rfl⟩
  clear hp
  go_wp2_with fail
  refine hs.mono ?_
  rintro e w1 ⟨r, rfl, hQ, ht1, hz1⟩
  clear hs
  obtain ⟨w3, hw3⟩ : ∃ w3, w3 = w1.alloc (.cells #[.int .i64 0, .int .i64 0, .int .i64 0, .int .i64 0, .int .i64 0, .int .i64 0, .int .i64 0, .int .i64 0, .int .i64 0, .int .i64 0, .int .i64 0, .int .i64 0, .int .i64 0, .bool false, .bool false, .bool false, .int .i64 0, .bool false, .int .i64 0, .int .i64 0, .bool false, .bool false, .int .i64 0, .int .i64 0, .bool false, .int .i64 0] 36) := ⟨_, rfl⟩
  have k3 : Keeps (fun _ => False) w1 w3 := by rw [hw3]; exact (Keeps.refl _ w1).alloc _
  have ht3 := ht1.keep (by show 0 < 13; decide) k3 (fun e => e)
  have hz3 := hz1.keep (by show 0 < 26; decide) k3 (fun e => e)
  have hc3 : CL w3 w1.heap.size Ro.zero.cells := by rw [hw3]; exact CL.made _ Ro.zero.cells _
  have lz : w.heap.size < w1.heap.size := hz1.lt (by show 0 < 26; decide)
  have n1 : ¬ w.heap.size = w1.heap.size := by omega
  have n2 : ¬ tb = w1.heap.size := by omega
  have n3 : ¬ w1.heap.size = tb := by omega
  have n4 : ¬ tb = w.heap.size := by omega
  have n5 : ¬ w.heap.size = tb := by omega
  go_wp2_with (rw [← hw3]; clear hw3; refine wpList_store_cl rfl 36 _ _ rfl w1.heap.size 0 26 _ rfl rfl rfl hc3 (by show 26 ≤ 26; decide) i46 (all_oneCell_toArray (by simp [Ro.cells, Value.oneCell'])) ?_; intro w4 hc4 k4 hsz4; clear hsz4)
  have ht4 := ht3.keep (by show 0 < 13; decide) k4 n2
  have hz4 := hz3.keep (by show 0 < 26; decide) k4 n1
  have hr4 : CL w4 w1.heap.size r.cells := hc4
  have K4 : Keeps (fun k => k = w1.heap.size) w1 w4 := (k3.mono (fun _ _ e => e.elim)).trans k4
  clear hc3 hz3 ht3 k3 k4 hc4 hz1 ht1
  have f9 := ht4.c 9 _ rfl
  have f10 := ht4.c 10 _ rfl
  have q2 := hr4.c 2 _ rfl
  have q3 := hr4.c 3 _ rfl
  have zq2 := hr4.z 2 (by show 2 < 26; decide)
  have zq3 := hr4.z 3 (by show 3 < 26; decide)
  obtain ⟨B, HB⟩ : ∃ B, Hid (w1.heap.size = B) := ⟨_, rfl⟩
  rw [HB.out] at hr4 n1 n2 n3 K4 lz q2 q3 zq2 zq3 ⊢
  go_region_held3 (fun w' => w'.cell? ⟨tb, 9, none⟩ = some (.int .i64 T.jb) ∧ w'.cell? ⟨tb, 10, none⟩ = some (.int .i64 T.tr)) (go_keep) (fail)
  rename_i hHeld
  clear hHeld f9 f10 q2 q3 zq2 zq3
  have hr5 : CL ((w4.setCell ⟨B, 2, none⟩ (.int .i64 T.jb)).setCell ⟨B, 3, none⟩ (.int .i64 T.tr)).drew B (r.go T).cells := ((hr4.set (o := 2) (by show 2 < 26; decide) (.int .i64 T.jb)).set (o := 3) (by show 3 < 26; decide) (.int .i64 T.tr)).drew
  have k5 : Keeps (fun k => k = B) w4 ((w4.setCell ⟨B, 2, none⟩ (.int .i64 T.jb)).setCell ⟨B, 3, none⟩ (.int .i64 T.tr)).drew := (((Keeps.refl _ w4).setA 2 (.int .i64 T.jb)).setA 3 (.int .i64 T.tr)).drew
  have ht5 := ht4.keep (by show 0 < 13; decide) k5 n2
  have hz5 := hz4.keep (by show 0 < 26; decide) k5 n1
  have K5 := K4.trans k5
  clear hr4 k5 K4 ht4 hz4
  generalize ((w4.setCell ⟨B, 2, none⟩ (.int .i64 T.jb)).setCell ⟨B, 3, none⟩ (.int .i64 T.tr)).drew = w5 at *
  have e25 := hr5.c 25 _ rfl
  have hi := isOut_any w5 r.fin
  cases ho : isOut r.fin with
  | false =>
    rw [ho] at hi
    have hr6 := run_row hr5
    have eT : T.out r.fin = T := if_neg (by rw [ho]; simp)
    clear ho
    go_wp2_with (first | (go_at_call 78; refine hi.mono ?_; rintro e w6 ⟨rfl, rfl⟩; clear e25) | (refine wpList_load_run rfl 36 _ rfl ⟨B, 0, none⟩ rfl _ hr6 ?_; clear hr6) | (refine wpList_store_cl rfl 36 _ _ rfl w.heap.size 0 26 _ rfl rfl rfl hz5 (by show 26 ≤ 26; decide) i46 (all_oneCell_toArray (by simp [Ro.cells, Value.oneCell'])) ?_; intro w7 hz7 k7 hsz7; clear hsz7))
    have hr8 := run_row (r := r.go T) hz7
    refine bodyPost_ret (v := .tuple #[.agg (r.go T).cells.toArray, .int .i64 0]) ?_ rfl ⟨r, w1, hQ, rfl, ?_, ?_⟩
    · rw [results_cell_tmp rfl]
      simp [asAddr, hr8, Result.andThen]
    · rw [eT]; exact ht5.keep (by show 0 < 13; decide) k7 n4
    · exact (K5.mono (T := fun k => k = B) (fun _ _ e => e)).trans' k7 (fun i hi e => absurd hi (by rw [HB.out]; omega)) (fun _ _ e => .inr e)
  | true =>
    rw [ho] at hi
    have hr6 := run_row (hr5.other (p := ⟨tb, 11, none⟩) n2 (.int .i64 r.fin))
    have ht6 := ht5.set (o := 11) (by show 11 < 13; decide) (.int .i64 r.fin)
    have hz6 := hz5.other (p := ⟨tb, 11, none⟩) n4 (.int .i64 r.fin)
    have k6 : Keeps (fun k => k = tb) w5 (w5.setCell ⟨tb, 11, none⟩ (.int .i64 r.fin)) := (Keeps.refl _ w5).setA _ _
    have eT : T.out r.fin = { T with oc := r.fin } := if_pos ho
    have g11 := ht5.c 11 _ rfl
    have zg11 := ht5.z 11 (by show 11 < 13; decide)
    clear ho
    go_wp2_with (first | (go_at_call 78; refine hi.mono ?_; rintro e w6 ⟨rfl, rfl⟩) | (refine wpList_load_run rfl 36 _ rfl ⟨B, 0, none⟩ rfl _ hr6 ?_; clear hr6) | (refine wpList_store_cl rfl 36 _ _ rfl w.heap.size 0 26 _ rfl rfl rfl hz6 (by show 26 ≤ 26; decide) i46 (all_oneCell_toArray (by simp [Ro.cells, Value.oneCell'])) ?_; intro w7 hz7 k7 hsz7; clear hsz7))
    have hr8 := run_row (r := r.go T) hz7
    refine bodyPost_ret (v := .tuple #[.agg (r.go T).cells.toArray, .int .i64 0]) ?_ rfl ⟨r, w1, hQ, rfl, ?_, ?_⟩
    · rw [results_cell_tmp rfl]
      simp [asAddr, hr8, Result.andThen]
    · rw [eT]; exact ht6.keep (by show 0 < 13; decide) k7 n4
    · exact (K5.trans' k6 (U := fun k => k = tb ∨ k = w.heap.size) (fun i hi e => absurd hi (by rw [HB.out]; omega)) (fun _ _ e => .inl e)).trans (k7.mono (fun _ _ e => .inr e))
end
end Go.Proofs.YtgjndhbfjofkeaaGreatDoor

namespace Go.Proofs.YtgjndhbfjofkeaaGreatDoor
open Go.RowKit
attribute [local go_sem] Oper.semAt_some run_store_nf run_store_f
def Tr.begun (T : Tr) (th st pr : Int) (ab : Nat) : Tr := { T with th := th, st := st, pr := pr, tr := T.tr + 1, a := some ab }
def enterRow (T : Tr) (th kind : Int) (no : Nat) : Ro := { Ro.zero with thread := th, job := T.jb, try_ := T.tr + 1, no := (no : Int), kind := kind, object := -1, entry := -1, enemy := -1, cell := -1 }
section
variable {w w' : World} {ρ ρ' ρ'' : Nat → Nat} {u j : Nat} {c : Sc} {ab rb n n' : Nat} {x x' : Tx} {f f' : Int → Option Nat} {s s' : Ws} {m m' : Mm} {r r' : Ro} {g nd kr kd t tb mb wb gb db : Nat} {xs : Nat → Int} {rs rs' : List Rd} {p : Int} {T : Tr}
set_option maxHeartbeats 1600000 in
set_option maxRecDepth 1000000 in
theorem t_enter (h : CL w tb (T.cells mb wb gb db)) (hrt : ρ tb = 0) (hSt : St w ρ u j wb mb s m) (hM : Mg w gb kd p) (hT : TR w) (hr : s.roomA m = true) (htr : 0 ≤ T.tr ∧ T.tr ≤ 1000000000) {q : Nat} (hqi : q < m.cells.length) (th st kind k : Int)
    (hrk : ∀ W, Keeps (fun _ => False) w W → Calls Tryz.prog 19 #[.pointer (some ⟨tb, 0, none⟩)] W fun e w' => e = .returned (.int .i64 k) ∧ w' = W) :
    Calls Tryz.prog 58 #[.pointer (some ⟨tb, 0, none⟩), .int .i64 kind, .agg #[.int .i64 th, .int .i64 st, .int .i64 (q : Int)]] w fun e w' => ∃ ab om ρ', e = .returned (.tuple #[.agg (enterRow T th kind s.atts.length).cells.toArray, .int .i64 0]) ∧ AX w' ρ' u j ⟨mb, wb, gb, db, .slice none 0 0, none, .slice none 0 0, om, []⟩ ab (Tx.fresh th st (q : Int) s.atts.length k) 0 (fun _ => none) (s.beg th st (q : Int) m.cells.length) ((m.make 1).make 0) ∧ CL w' tb ((T.begun th st (q : Int) ab).cells mb wb gb db) ∧ Fr (fun z => z = tb) u j w w' ρ ρ' ∧ w.heap.size ≤ ab ∧ w.heap.size ≤ om := by
  obtain ⟨W0, hW0⟩ : ∃ W0, W0 = (w.alloc (.cells #[.int .i64 th, .int .i64 st, .int .i64 (q : Int)] 51)).alloc (.cells #[.int .i64 0, .int .i64 0, .int .i64 0, .int .i64 0, .int .i64 0, .int .i64 0, .int .i64 0, .int .i64 0, .int .i64 0, .int .i64 0, .int .i64 0, .int .i64 0, .int .i64 0, .bool false, .bool false, .bool false, .int .i64 0, .bool false, .int .i64 0, .int .i64 0, .bool false, .bool false, .int .i64 0, .int .i64 0, .bool false, .int .i64 0] 36) := ⟨_, rfl⟩
  have K0 : Keeps (fun _ => False) w W0 := by rw [hW0]; exact ((Keeps.refl _ w).alloc _).alloc _
  have hO : CL W0 w.heap.size [.int .i64 th, .int .i64 st, .int .i64 (q : Int)] := by rw [hW0]; exact (CL.made w [.int .i64 th, .int .i64 st, .int .i64 (q : Int)] _).alloc (by show 0 < 3; decide) _
  have hZ : CL W0 (w.heap.size + 1) Ro.zero.cells := by
    rw [hW0]
    refine cast ?_ (CL.made (w.alloc (.cells #[.int .i64 th, .int .i64 st, .int .i64 (q : Int)] 51)) Ro.zero.cells 36)
    congr 1
    simp
  have S0 : ¬ Sr u j 0 := Sr.not0 hSt
  have hsz : W0.drew.heap.size = w.heap.size + 2 := by show W0.heap.size = _; rw [hW0]; simp
  have rO : ρ w.heap.size = 0 := hSt.bnd _ (Nat.le_refl _)
  have rZ : ρ (w.heap.size + 1) = 0 := hSt.bnd _ (by omega)
  have ltb : tb < w.heap.size := h.lt (by show 0 < 13; decide)
  have n1 : ¬ tb = w.heap.size := by omega
  have n2 : ¬ w.heap.size = tb := by omega
  have n3 : ¬ tb = w.heap.size + 1 := by omega
  have n4 : ¬ w.heap.size + 1 = tb := by omega
  have n5 : ¬ w.heap.size = w.heap.size + 1 := by omega
  have n6 : ¬ w.heap.size + 1 = w.heap.size := by omega
  have hwr : IntKind.i64.wrap (T.tr + 1) = T.tr + 1 := by rw [IntKind.wrap_i64]; omega
  have KD := K0.drew
  have h0 := h.keep (by show 0 < 13; decide) KD (fun e => e)
  have hO0 := hO.drew
  have hZ0 := hZ.drew
  have hR := hrk _ KD
  have hN := tnew_any (db := db) (hSt.new KD).1 (Mg.keep hM KD) (TR.keep hT KD) hr th st hqi k
  have f1 := h0.c 1 _ rfl
  have f2 := h0.c 2 _ rfl
  have f3 := h0.c 3 _ rfl
  have f4 := h0.c 4 _ rfl
  have o0 := hO0.c 0 _ rfl
  have o1 := hO0.c 1 _ rfl
  have o2 := hO0.c 2 _ rfl
  clear h hO hZ hrk hM hT hr hqi htr
  go_enter Tryz.func58, Tryz.ntmps58
  go_wp2_with fail
  rw [← hW0]
  clear hW0
  go_region_held3 (fun w' => w'.cell? ⟨tb, 1, none⟩ = some (.pointer (some ⟨mb, 0, none⟩)) ∧ w'.cell? ⟨tb, 2, none⟩ = some (.pointer (some ⟨wb, 0, none⟩)) ∧ w'.cell? ⟨tb, 3, none⟩ = some (.pointer (some ⟨gb, 0, none⟩)) ∧ w'.cell? ⟨tb, 4, none⟩ = some (.pointer (some ⟨db, 0, none⟩)) ∧ w'.cell? ⟨w.heap.size, 0, none⟩ = some (.int .i64 th) ∧ w'.cell? ⟨w.heap.size, 1, none⟩ = some (.int .i64 st) ∧ w'.cell? ⟨w.heap.size, 2, none⟩ = some (.int .i64 (q : Int))) (first | (go_keep; done) | exact KZ) (first | (go_at_call 19; refine hR.mono ?_; rintro e W1 ⟨rfl, rfl⟩) | (go_at_call 81; refine hN.mono ?_; clear hN; rintro e W2 ⟨ab, om, rfl, lab, lom, ρ2, hA2, x2⟩; have h2 := h0.keep (by show 0 < 13; decide) x2.keeps (fun e => S0 (by rw [hrt] at e; exact e)); have hO2 := hO0.keep (by show 0 < 3; decide) x2.keeps (fun e => S0 (by rw [rO] at e; exact e)); have hZ2 := hZ0.keep (by show 0 < 26; decide) x2.keeps (fun e => S0 (by rw [rZ] at e; exact e)); have KZ := And.intro (h2.c 1 _ rfl) (And.intro (h2.c 2 _ rfl) (And.intro (h2.c 3 _ rfl) (And.intro (h2.c 4 _ rfl) (And.intro (hO2.c 0 _ rfl) (And.intro (hO2.c 1 _ rfl) (hO2.c 2 _ rfl))))))))
  rename_i hHeld
  clear hHeld KZ hR o0 o1 o2 f1 f2 f3 f4 h0 hO0 hZ0
  go_wp2_with fail
  have X2 : Fr (fun z => z = tb) u j w W2 ρ ρ2 := (Fr.of_keeps (A := fun z => z = tb) KD (fun _ _ e => e.elim)).ex x2
  have o0 := hO2.c 0 _ rfl
  have o1 := hO2.c 1 _ rfl
  have o2 := hO2.c 2 _ rfl
  have b0 := h2.c 0 _ rfl
  have b6 := h2.c 6 _ rfl
  have b7 := h2.c 7 _ rfl
  have b8 := h2.c 8 _ rfl
  have zb0 := h2.z 0 (by show 0 < 13; decide)
  have zb6 := h2.z 6 (by show 6 < 13; decide)
  have zb7 := h2.z 7 (by show 7 < 13; decide)
  have zb8 := h2.z 8 (by show 8 < 13; decide)
  go_region_held3 (fun w' => w'.cell? ⟨w.heap.size, 0, none⟩ = some (.int .i64 th) ∧ w'.cell? ⟨w.heap.size, 1, none⟩ = some (.int .i64 st) ∧ w'.cell? ⟨w.heap.size, 2, none⟩ = some (.int .i64 (q : Int))) (go_keep) (fail)
  rename_i hHeld
  clear hHeld b0 b6 b7 b8 zb0 zb6 zb7 zb8 o0 o1 o2
  have lo' : w.heap.size ≤ om := Nat.le_trans (show w.heap.size ≤ W0.drew.heap.size from KD.size) lom
  have la' : w.heap.size ≤ ab := Nat.le_trans (show w.heap.size ≤ W0.drew.heap.size from KD.size) lab
  have l0 : W0.drew.heap.size = w.heap.size + 2 := hsz
  have r2t : ρ2 tb = 0 := (x2.old _ (by omega)).trans hrt
  have r2O : ρ2 w.heap.size = 0 := (x2.old _ (by omega)).trans rO
  have r2Z : ρ2 (w.heap.size + 1) = 0 := (x2.old _ (by omega)).trans rZ
  have kb : Keeps (fun i => i = tb) W2 ((((W2.setCell ⟨tb, 0, none⟩ (.pointer (some ⟨ab, 0, none⟩))).setCell ⟨tb, 6, none⟩ (.int .i64 th)).setCell ⟨tb, 7, none⟩ (.int .i64 st)).setCell ⟨tb, 8, none⟩ (.int .i64 (q : Int))).drew := (((((Keeps.refl (fun i => i = tb) W2).setCell (p := ⟨tb, 0, none⟩) (fun _ => rfl) _).setCell (p := ⟨tb, 6, none⟩) (fun _ => rfl) _).setCell (p := ⟨tb, 7, none⟩) (fun _ => rfl) _).setCell (p := ⟨tb, 8, none⟩) (fun _ => rfl) _).drew
  have h4 : CL ((((W2.setCell ⟨tb, 0, none⟩ (.pointer (some ⟨ab, 0, none⟩))).setCell ⟨tb, 6, none⟩ (.int .i64 th)).setCell ⟨tb, 7, none⟩ (.int .i64 st)).setCell ⟨tb, 8, none⟩ (.int .i64 (q : Int))).drew tb (({ T with th := th, st := st, pr := (q : Int), a := some ab } : Tr).cells mb wb gb db) := ((((h2.set (o := 0) (by show 0 < 13; decide) (.pointer (some ⟨ab, 0, none⟩))).set (o := 6) (by show 6 < 13; decide) (.int .i64 th)).set (o := 7) (by show 7 < 13; decide) (.int .i64 st)).set (o := 8) (by show 8 < 13; decide) (.int .i64 (q : Int))).drew
  clear h2
  generalize ((((W2.setCell ⟨tb, 0, none⟩ (.pointer (some ⟨ab, 0, none⟩))).setCell ⟨tb, 6, none⟩ (.int .i64 th)).setCell ⟨tb, 7, none⟩ (.int .i64 st)).setCell ⟨tb, 8, none⟩ (.int .i64 (q : Int))).drew = W4 at *
  have b10 := h4.c 10 _ rfl
  have zb10 := h4.z 10 (by show 10 < 13; decide)
  go_wp2_with fail
  have k5 : Keeps (fun i => i = tb) W2 (W4.setCell ⟨tb, 10, none⟩ (.int .i64 (T.tr + 1))) := kb.setCell (p := ⟨tb, 10, none⟩) (fun _ => rfl) _
  have h5 : CL (W4.setCell ⟨tb, 10, none⟩ (.int .i64 (T.tr + 1))) tb ((T.begun th st (q : Int) ab).cells mb wb gb db) := h4.set (o := 10) (by show 10 < 13; decide) _
  clear b10 zb10 h4 kb
  generalize W4.setCell ⟨tb, 10, none⟩ (.int .i64 (T.tr + 1)) = W5 at *
  clear W4
  have hO5 := hO2.keep (by show 0 < 3; decide) k5 n2
  have hZ5 := hZ2.keep (by show 0 < 26; decide) k5 n4
  have hA5 := hA2.far k5 r2t (by omega) (fun e => by
    rcases e with e | e | e | e
    · have : tb = om := e
      omega
    · cases e
    · cases e
    · cases e)
  have X5 : Fr (fun z => z = tb) u j w W5 ρ ρ2 := X2.trans (Fr.of_keeps k5 (fun _ _ e => e)) (fun _ _ e => e) (fun _ _ e => e)
  clear hO2 hZ2 hA2 X2 k5
  have o0 := hO5.drew.c 0 _ rfl
  have b9 := h5.drew.c 9 _ rfl
  have b10 := h5.drew.c 10 _ rfl
  refine wp_region_held_drew (S := fun w' => w'.cell? ⟨w.heap.size, 0, none⟩ = some (.int .i64 th) ∧ w'.cell? ⟨tb, 9, none⟩ = some (.int .i64 T.jb) ∧ w'.cell? ⟨tb, 10, none⟩ = some (.int .i64 (T.tr + 1))) (by kernel_rfl) ⟨o0, b9, b10⟩ (fun hHeld => ?_)
  refine wpAnyH_take (i := 0) (v := ?_) rfl (by kernel_rfl) (by kernel_rfl) (by kernel_rfl) (fun _ _ _ h => h) (Or.inl ⟨by rfl, ?_⟩) (by assumption) ?_
  rotate_left
  · intro wx hSw; (try dsimp only at hSw); go_simp <;> with_reducible rfl
  (try simp only [List.getElem_toArray]); (try simp only [List.getElem_cons_succ]); (try simp only [List.getElem_cons_zero]); (try simp only [Act.put]); (try simp only [List.setIfInBounds_toArray]); (repeat first | simp only [List.set_cons_succ] | simp only [List.set_cons_zero])
  refine wpAnyH_take (i := 1) (v := ?_) rfl (by kernel_rfl) (by kernel_rfl) (by kernel_rfl) (fun _ _ _ h => h) (Or.inl ⟨by rfl, ?_⟩) (by assumption) ?_
  rotate_left
  · intro wx hSw; (try dsimp only at hSw); go_simp <;> with_reducible rfl
  (try simp only [List.getElem_toArray]); (try simp only [List.getElem_cons_succ]); (try simp only [List.getElem_cons_zero]); (try simp only [Act.put]); (try simp only [List.setIfInBounds_toArray]); (repeat first | simp only [List.set_cons_succ] | simp only [List.set_cons_zero])
  refine wpAnyH_take (i := 2) (v := ?_) rfl (by kernel_rfl) (by kernel_rfl) (by kernel_rfl) (fun _ _ _ h => h) (Or.inl ⟨by rfl, ?_⟩) (by assumption) ?_
  rotate_left
  · intro wx hSw; (try dsimp only at hSw); go_simp <;> with_reducible rfl
  (try simp only [List.getElem_toArray]); (try simp only [List.getElem_cons_succ]); (try simp only [List.getElem_cons_zero]); (try simp only [Act.put]); (try simp only [List.setIfInBounds_toArray]); (repeat first | simp only [List.set_cons_succ] | simp only [List.set_cons_zero])
  refine wpAnyH_take (i := 3) (v := ?_) rfl (by kernel_rfl) (by kernel_rfl) (by kernel_rfl) (fun _ _ _ h => h) (Or.inl ⟨by rfl, ?_⟩) (by assumption) ?_
  rotate_left
  · intro wx hSw; (try dsimp only at hSw); go_simp <;> with_reducible rfl
  (try simp only [List.getElem_toArray]); (try simp only [List.getElem_cons_succ]); (try simp only [List.getElem_cons_zero]); (try simp only [Act.put]); (try simp only [List.setIfInBounds_toArray]); (repeat first | simp only [List.set_cons_succ] | simp only [List.set_cons_zero])
  refine wpAnyH_take (i := 4) (v := ?_) rfl (by kernel_rfl) (by kernel_rfl) (by kernel_rfl) (fun _ _ _ h => h) (Or.inl ⟨by rfl, ?_⟩) (by assumption) ?_
  rotate_left
  · intro wx hSw; (try dsimp only at hSw); go_simp <;> with_reducible rfl
  (try simp only [List.getElem_toArray]); (try simp only [List.getElem_cons_succ]); (try simp only [List.getElem_cons_zero]); (try simp only [Act.put]); (try simp only [List.setIfInBounds_toArray]); (repeat first | simp only [List.set_cons_succ] | simp only [List.set_cons_zero])
  refine wpAnyH_take (i := 5) (v := ?_) rfl (by kernel_rfl) (by kernel_rfl) (by kernel_rfl) (fun _ _ _ h => h) (Or.inl ⟨by rfl, ?_⟩) (by assumption) ?_
  rotate_left
  · intro wx hSw; (try dsimp only at hSw); go_simp <;> with_reducible rfl
  (try simp only [List.getElem_toArray]); (try simp only [List.getElem_cons_succ]); (try simp only [List.getElem_cons_zero]); (try simp only [Act.put]); (try simp only [List.setIfInBounds_toArray]); (repeat first | simp only [List.set_cons_succ] | simp only [List.set_cons_zero])
  refine wpAnyH_take (i := 6) (v := ?_) rfl (by kernel_rfl) (by kernel_rfl) (by kernel_rfl) (fun _ _ _ h => h) (Or.inl ⟨by rfl, ?_⟩) (by assumption) ?_
  rotate_left
  · intro wx hSw; (try dsimp only at hSw); go_simp <;> with_reducible rfl
  (try simp only [List.getElem_toArray]); (try simp only [List.getElem_cons_succ]); (try simp only [List.getElem_cons_zero]); (try simp only [Act.put]); (try simp only [List.setIfInBounds_toArray]); (repeat first | simp only [List.set_cons_succ] | simp only [List.set_cons_zero])
  refine wpAnyH_take (i := 7) (v := ?_) rfl (by kernel_rfl) (by kernel_rfl) (by kernel_rfl) (fun _ _ _ h => h) (Or.inl ⟨by rfl, ?_⟩) (by assumption) ?_
  rotate_left
  · intro wx hSw; (try dsimp only at hSw); go_simp <;> with_reducible rfl
  (try simp only [List.getElem_toArray]); (try simp only [List.getElem_cons_succ]); (try simp only [List.getElem_cons_zero]); (try simp only [Act.put]); (try simp only [List.setIfInBounds_toArray]); (repeat first | simp only [List.set_cons_succ] | simp only [List.set_cons_zero])
  refine wpAnyH_take (i := 8) (v := ?_) rfl (by kernel_rfl) (by kernel_rfl) (by kernel_rfl) (fun _ _ _ h => h) (Or.inl ⟨by rfl, ?_⟩) (by assumption) ?_
  rotate_left
  · intro wx hSw; (try dsimp only at hSw); go_simp <;> with_reducible rfl
  (try simp only [List.getElem_toArray]); (try simp only [List.getElem_cons_succ]); (try simp only [List.getElem_cons_zero]); (try simp only [Act.put]); (try simp only [List.setIfInBounds_toArray]); (repeat first | simp only [List.set_cons_succ] | simp only [List.set_cons_zero])
  refine wpAnyH_take (i := 9) (v := ?_) rfl (by kernel_rfl) (by kernel_rfl) (by kernel_rfl) (fun _ _ _ h => h) (Or.inl ⟨by rfl, ?_⟩) (by assumption) ?_
  rotate_left
  · intro wx hSw; (try dsimp only at hSw); go_simp <;> with_reducible rfl
  (try simp only [List.getElem_toArray]); (try simp only [List.getElem_cons_succ]); (try simp only [List.getElem_cons_zero]); (try simp only [Act.put]); (try simp only [List.setIfInBounds_toArray]); (repeat first | simp only [List.set_cons_succ] | simp only [List.set_cons_zero])
  refine wpAnyH_take (i := 10) (v := ?_) rfl (by kernel_rfl) (by kernel_rfl) (by kernel_rfl) (fun _ _ _ h => h) (Or.inl ⟨by rfl, ?_⟩) (by assumption) ?_
  rotate_left
  · intro wx hSw; (try dsimp only at hSw); go_simp <;> with_reducible rfl
  (try simp only [List.getElem_toArray]); (try simp only [List.getElem_cons_succ]); (try simp only [List.getElem_cons_zero]); (try simp only [Act.put]); (try simp only [List.setIfInBounds_toArray]); (repeat first | simp only [List.set_cons_succ] | simp only [List.set_cons_zero])
  refine wpAnyH_take (i := 12) (v := ?_) rfl (by kernel_rfl) (by kernel_rfl) (by kernel_rfl) (fun _ _ _ h => h) (Or.inl ⟨by rfl, ?_⟩) (by assumption) ?_
  rotate_left
  · intro wx hSw; (try dsimp only at hSw); go_simp <;> with_reducible rfl
  (try simp only [List.getElem_toArray]); (try simp only [List.getElem_cons_succ]); (try simp only [List.getElem_cons_zero]); (try simp only [Act.put]); (try simp only [List.setIfInBounds_toArray]); (repeat first | simp only [List.set_cons_succ] | simp only [List.set_cons_zero])
  refine wpAnyH_one 11 (by kernel_rfl) rfl rfl ?_
  go_simp
  refine (number_tell hA5.cl.drew).mono ?_
  rintro e W6 ⟨rfl, rfl⟩
  refine ⟨⟨o0, b9, b10⟩, fun _ _ _ => ?_⟩
  have hHeld : W5.drew.cell? ⟨w.heap.size, 0, none⟩ = some (.int .i64 th) ∧ W5.drew.cell? ⟨tb, 9, none⟩ = some (.int .i64 T.jb) ∧ W5.drew.cell? ⟨tb, 10, none⟩ = some (.int .i64 (T.tr + 1)) := ⟨o0, b9, b10⟩
  (try simp only [Act.put]); (try simp only [List.setIfInBounds_toArray]); (repeat first | simp only [List.set_cons_succ] | simp only [List.set_cons_zero])
  refine wpAnyH_take (i := 13) (oi := { dst := some 53, op := Op.build 36 #[(1, Operand.tmp 41), (2, Operand.tmp 45), (3, Operand.tmp 49), (4, Operand.tmp 51), (5, Operand.tmp 52), (7, Operand.const (Value.int IntKind.i64 (-1))), (8, Operand.const (Value.int IntKind.i64 (-1))), (9, Operand.const (Value.int IntKind.i64 (-1))), (10, Operand.const (Value.int IntKind.i64 (-1)))], type := 36, pos := "retry.go:204", after := #[{ on := 1, ground := Ground.data }, { on := 5, ground := Ground.data }, { on := 9, ground := Ground.data }, { on := 11, ground := Ground.data }, { on := 12, ground := Ground.data }], guard := none }) (v := .agg (enterRow T th kind s.atts.length).cells.toArray) rfl (by kernel_rfl) (by kernel_rfl) (by kernel_rfl) (fun _ _ _ h => h) (Or.inl ⟨by rfl, ?_⟩) (by assumption) ?_
  · intro wx hSw; kernel_rfl
  (try simp only [Act.put]); (try simp only [List.setIfInBounds_toArray]); (repeat first | simp only [List.set_cons_succ] | simp only [List.set_cons_zero])
  have kk : Keeps (fun k => k = w.heap.size + 1) W5.drew (W5.drew.setCells (w.heap.size + 1) 0 (enterRow T th kind s.atts.length).cells) := (Keeps.refl _ W5.drew).setsA _ _
  refine wpAnyH_store 14 (by kernel_rfl) rfl rfl 36 _ _ rfl (w.heap.size + 1) 0 26 (enterRow T th kind s.atts.length).cells.toArray (by rfl) (by rfl) rfl (hZ5.drew.there (n := 26) (by show 26 ≤ 26; decide)) i46 (all_oneCell_toArray (by simp [Ro.cells, Value.oneCell'])) ⟨kk.cell (p := ⟨w.heap.size, 0, none⟩) hHeld.1 n5, kk.cell (p := ⟨tb, 9, none⟩) hHeld.2.1 n3, kk.cell (p := ⟨tb, 10, none⟩) hHeld.2.2 n3⟩ ?_
  intro hHeld
  refine wpAnyH_take (i := 15) (v := ?_) rfl (by kernel_rfl) (by kernel_rfl) (by kernel_rfl) (fun _ _ _ h => h) (Or.inl ⟨by rfl, ?_⟩) (by assumption) ?_
  rotate_left
  · intro wx hSw; (try dsimp only at hSw); go_simp <;> with_reducible rfl
  (try simp only [List.getElem_toArray]); (try simp only [List.getElem_cons_succ]); (try simp only [List.getElem_cons_zero]); (try simp only [Act.put]); (try simp only [List.setIfInBounds_toArray]); (repeat first | simp only [List.set_cons_succ] | simp only [List.set_cons_zero])
  refine wpAnyH_done (by kernel_rfl) ?_ _
  have hf : CL (W5.drew.setCells (w.heap.size + 1) 0 (enterRow T th kind s.atts.length).cells) (w.heap.size + 1) (enterRow T th kind s.atts.length).cells := hZ5.drew.sets (o := 0) (by show 26 ≤ 26; decide)
  have kf : Keeps (fun k => k = w.heap.size + 1) W5 (W5.drew.setCells (w.heap.size + 1) 0 (enterRow T th kind s.atts.length).cells) := (Keeps.refl _ W5).drew.trans' kk (fun _ _ e => e) (fun i hi e => e)
  have h7 := h5.keep (by show 0 < 13; decide) kf n3
  have hA7 := hA5.far kf r2Z (by omega) (fun e => by
    rcases e with e | e | e | e
    · have : w.heap.size + 1 = om := e
      omega
    · cases e
    · cases e
    · cases e)
  have X7 : Fr (fun z => z = tb) u j w (W5.drew.setCells (w.heap.size + 1) 0 (enterRow T th kind s.atts.length).cells) ρ ρ2 := X5.trans (Fr.of_keeps kf (fun _ _ e => e)) (fun _ _ e => e) (fun i hi e => by omega)
  show Exit.then _ _ _ _ (W5.drew.setCells (w.heap.size + 1) 0 (enterRow T th kind s.atts.length).cells)
  clear hHeld kk kf o0 b9 b10 h5 hO5 hZ5 hA5 X5
  generalize W5.drew.setCells (w.heap.size + 1) 0 (enterRow T th kind s.atts.length).cells = W at *
  go_wp2_with fail
  refine bodyPost_ret (v := .tuple #[.agg (enterRow T th kind s.atts.length).cells.toArray, .int .i64 0]) ?_ rfl ⟨ab, om, ρ2, rfl, hA7, h7, X7, la', lo'⟩
  rw [results_cell_tmp rfl]
  have hr := run_row hf
  simp [asAddr, hr, Result.andThen]
end
end Go.Proofs.YtgjndhbfjofkeaaGreatDoor

namespace Go.Proofs.YtgjndhbfjofkeaaGreatDoor
open Go.RowKit
attribute [local go_sem] Oper.semAt_some run_store_nf run_store_f
theorem mg_keep {w w' : World} {b k : Nat} {p : Int} {S : Nat → Prop} (h : Mg w b k p) (K : Keeps S w w') (hb : ¬ S b) : Mg w' b k p := ⟨h.1, h.2.1, K.cell h.2.2 hb⟩
theorem tr_keep {w w' : World} {S : Nat → Prop} (h : TR w) (k : Keeps S w w') (h0 : ¬ S 0) : TR w' := fun i hi => ⟨k.cell (h i hi).1 h0, k.cell (h i hi).2.1 h0, k.cell (h i hi).2.2.1 h0, k.cell (h i hi).2.2.2 h0⟩
section
variable {w w' : World} {ρ ρ' ρ'' : Nat → Nat} {u j : Nat} {c : Sc} {ab rb n n' : Nat} {x x' : Tx} {f f' : Int → Option Nat} {s s' : Ws} {m m' : Mm} {r r' : Ro} {g nd kr kd t tb mb wb gb db : Nat} {xs : Nat → Int} {rs rs' : List Rd} {p : Int} {T : Tr}
set_option maxHeartbeats 1600000 in
set_option maxRecDepth 1000000 in
theorem rank_nil (w : World) : Calls Tryz.prog 42 #[.pointer none] w fun e w' => e = .returned (.int .i64 0) ∧ w' = w := by
  have hp : ∀ w : World, (binOp .eql 86 (.pointer none) (.pointer none)).run Tryz.prog w = .ok (.bool true) w := fun _ => rfl
  go_enter Tryz.func42, Tryz.ntmps42
  go_wp2
  go_ret
  exact ⟨rfl, rfl⟩
set_option maxHeartbeats 1600000 in
set_option maxRecDepth 1000000 in
theorem t_begin (h : CL w tb (T.cells mb wb gb db)) (ha : T.a = none) (hrt : ρ tb = 0) (hrg : ρ gb = 0) (hr0 : ρ 0 = 0) (hSt : St w ρ u j wb mb s m) (hM : Mg w gb kd p) (hT : TR w) (hc0 : 0 < m.cells.length) (hfr : m.free = true) (hlog : (m.log.length + 1) * 56 ≤ 140737488355328) (hcl : m.cells.length < 65536) (hr : s.roomA ((m.bump 0).make 0) = true) (htr : 0 ≤ T.tr ∧ T.tr ≤ 1000000000) :
    Calls Tryz.prog 57 #[.pointer (some ⟨tb, 0, none⟩)] w fun e w' => ∃ ab om ρ', e = .returned (.tuple #[.agg ((enterRow T T.th 1 s.atts.length).acc (m.bump 0).took).cells.toArray, .int .i64 0]) ∧ AX w' ρ' u j ⟨mb, wb, gb, db, .slice none 0 0, none, .slice none 0 0, om, []⟩ ab (Tx.fresh T.th (ca m.cells 0).2 (m.cells.length : Int) s.atts.length 0) 0 (fun _ => none) (s.beg T.th (ca m.cells 0).2 (m.cells.length : Int) (m.cells.length + 1)) ((((m.bump 0).make 0).make 1).make 0) ∧ CL w' tb ((T.begun T.th (ca m.cells 0).2 (m.cells.length : Int) ab).cells mb wb gb db) ∧ Fr (fun z => z = tb) u j w w' ρ ρ' ∧ w.heap.size ≤ ab ∧ w.heap.size ≤ om := by
  obtain ⟨W0, hW0⟩ : ∃ W0, W0 = w.alloc (.cells #[.int .i64 0, .int .i64 0, .int .i64 0, .int .i64 0, .int .i64 0, .int .i64 0, .int .i64 0, .int .i64 0, .int .i64 0, .int .i64 0, .int .i64 0, .int .i64 0, .int .i64 0, .bool false, .bool false, .bool false, .int .i64 0, .bool false, .int .i64 0, .int .i64 0, .bool false, .bool false, .int .i64 0, .int .i64 0, .bool false, .int .i64 0] 36) := ⟨_, rfl⟩
  have K0 : Keeps (fun _ => False) w W0 := by rw [hW0]; exact (Keeps.refl _ w).alloc _
  have hZ : CL W0 w.heap.size Ro.zero.cells := by rw [hW0]; exact CL.made _ _ _
  have hsz : W0.drew.heap.size = w.heap.size + 1 := by show W0.heap.size = _; rw [hW0]; simp
  have S0 : ¬ Sr u j 0 := Sr.not0 hSt
  have rZ : ρ w.heap.size = 0 := hSt.bnd _ (Nat.le_refl _)
  have ltb : tb < w.heap.size := h.lt (by show 0 < 13; decide)
  have hgl : gb < w.heap.size := World.block_lt_of_cell? _ _ hM.2.2
  have n1 : ¬ tb = w.heap.size := by omega
  have n2 : ¬ w.heap.size = tb := by omega
  have KD := K0.drew
  have h0 := h.keep (by show 0 < 13; decide) KD (fun e => e)
  have hZ0 := hZ.drew
  have hA := sbump (q := 0) (hSt.new KD).1 hc0 hfr hlog
  have f1 := h0.c 1 _ rfl
  have f5 := h0.c 5 _ rfl
  have bc : (m.bump 0).cells.length = m.cells.length := by simp [Mm.bump, Mm.take]
  have M0 := Mg.keep hM KD
  have T0 := TR.keep hT KD
  clear h hZ hM hT
  go_enter Tryz.func57, Tryz.ntmps57
  go_wp2_with fail
  rw [← hW0]
  clear hW0
  go_region_held3 (fun w' => w'.cell? ⟨tb, 1, none⟩ = some (.pointer (some ⟨mb, 0, none⟩)) ∧ w'.cell? ⟨tb, 5, none⟩ = some (.int .i64 0)) (first | (go_keep; done) | exact KZ) (first | (go_at_call 79; refine hA.mono ?_; clear hA; rintro e W1 ⟨rfl, ρ1, hS1, x1⟩; have h1 := h0.keep (by show 0 < 13; decide) x1.keeps (fun e => S0 (by rw [hrt] at e; exact e)); have hZ1 := hZ0.keep (by show 0 < 26; decide) x1.keeps (fun e => S0 (by rw [rZ] at e; exact e)); have M1 := mg_keep M0 x1.keeps (fun e => S0 (by rw [hrg] at e; exact e)); have T1 := tr_keep T0 x1.keeps (fun e => S0 (by rw [hr0] at e; exact e)); have KZ := And.intro (h1.c 1 _ rfl) (h1.c 5 _ rfl)))
  rename_i hHeld
  clear hHeld KZ f1 f5 h0 hZ0 M0 T0
  have f1 := h1.c 1 _ rfl
  have l1 : W0.drew.heap.size ≤ W1.heap.size := x1.keeps.size
  have r1t : ρ1 tb = 0 := (x1.old _ (by omega)).trans hrt
  have r1Z : ρ1 w.heap.size = 0 := (x1.old _ (by omega)).trans rZ
  have r1g : ρ1 gb = 0 := (x1.old _ (by omega)).trans hrg
  have r1z : ρ1 0 = 0 := (x1.old _ (by omega)).trans hr0
  obtain ⟨F1, hm1, _⟩ := id hS1.mj
  have ht := took_any hm1 (had_bump m 0) (by rw [log_bump]; omega)
  clear hm1
  obtain ⟨qq, HQ⟩ : ∃ qq, Hid ((m.bump 0).took = qq) := ⟨_, rfl⟩
  rw [HQ.out] at ht
  obtain ⟨q0, q1, q2, q3, q4, q5, q6⟩ := qq
  have X1 : Fr (fun z => z = tb) u j w W1 ρ ρ1 := (Fr.of_keeps (A := fun z => z = tb) KD (fun _ _ e => e.elim)).ex x1
  have hMk : ∀ W, Keeps (fun _ => False) W1 W → Calls Tryz.prog 50 #[.pointer (some ⟨mb, 0, none⟩), .int .i64 0] W fun e w' => e = .returned (.tuple #[.int .i64 m.cells.length, .int .i64 0]) ∧ ∃ ρ', St w' ρ' u j wb mb s ((m.bump 0).make 0) ∧ Ext (Sr u j) W w' ρ1 ρ' := fun W K => by
    have hh := smake (hS1.new K).1 0 (by rw [bc]; exact hcl)
    rw [bc] at hh
    exact hh
  go_wp2_with fail
  refine ht.mono ?_
  clear ht f1
  rintro e w2 ⟨rfl, k2⟩
  have hB : CL (w2.alloc (.cells #[.int .i64 q0, .int .i64 q1, .int .i64 q2, .int .i64 q3, .int .i64 q4, .int .i64 q5, .bool q6] 167)) w2.heap.size [.int .i64 q0, .int .i64 q1, .int .i64 q2, .int .i64 q3, .int .i64 q4, .int .i64 q5, .bool q6] := CL.made _ _ _
  have K3 : Keeps (fun _ => False) W1 (w2.alloc (.cells #[.int .i64 q0, .int .i64 q1, .int .i64 q2, .int .i64 q3, .int .i64 q4, .int .i64 q5, .bool q6] 167)) := k2.alloc _
  have f1 := (h1.keep (by show 0 < 13; decide) K3 (fun e => e)).c 1 _ rfl
  obtain ⟨w3, hw3⟩ : ∃ w3, w3 = w2.alloc (.cells #[.int .i64 q0, .int .i64 q1, .int .i64 q2, .int .i64 q3, .int .i64 q4, .int .i64 q5, .bool q6] 167) := ⟨_, rfl⟩
  obtain ⟨B, hBe⟩ : ∃ B, B = w2.heap.size := ⟨_, rfl⟩
  have lB1 : W1.heap.size ≤ B := by rw [hBe]; exact k2.size
  have lB3 : B < w3.heap.size := by rw [hBe, hw3]; simp
  have h1 := h1.keep (by show 0 < 13; decide) K3 (fun e => e)
  have hZ1 := hZ1.keep (by show 0 < 26; decide) K3 (fun e => e)
  have M1 := Mg.keep M1 K3
  have T1 := TR.keep T1 K3
  have hMk := hMk _ K3
  rw [← hw3, ← hBe] at hB
  rw [← hw3] at K3 h1 hZ1 M1 T1 hMk
  clear k2
  go_wp2_with (go_at_call 50; rw [← hw3]; refine hMk.mono ?_; clear hMk f1; rintro e w4 ⟨rfl, ρ4, hS4, x4⟩; have h4 := h1.keep (by show 0 < 13; decide) x4.keeps (fun e => S0 (by rw [r1t] at e; exact e)); have f6 := h4.c 6 _ rfl)
  rw [← hBe]
  clear hw3 hBe f6
  have l3 : W1.heap.size ≤ w3.heap.size := K3.size
  have l4 : w3.heap.size ≤ w4.heap.size := x4.keeps.size
  have r4t : ρ4 tb = 0 := (x4.old _ (by omega)).trans r1t
  have r1B : ρ1 B = 0 := hS1.bnd _ lB1
  have r4B : ρ4 B = 0 := (x4.old _ lB3).trans r1B
  have r4Z : ρ4 w.heap.size = 0 := (x4.old _ (by omega)).trans r1Z
  have hB4 := hB.keep (by show 0 < 7; decide) x4.keeps (fun e => S0 (by rw [r1B] at e; exact e))
  have hZ4 := hZ1.keep (by show 0 < 26; decide) x4.keeps (fun e => S0 (by rw [r1Z] at e; exact e))
  have M4 := mg_keep M1 x4.keeps (fun e => S0 (by rw [r1g] at e; exact e))
  have T4 := tr_keep T1 x4.keeps (fun e => S0 (by rw [r1z] at e; exact e))
  have X4 : Fr (fun z => z = tb) u j w w4 ρ ρ4 := (X1.trans (Fr.of_keeps (A := fun z => z = tb) K3 (fun _ _ e => e.elim)) (fun _ _ e => e) (fun _ _ e => e)).ex x4
  have bm : ((m.bump 0).make 0).cells.length = m.cells.length + 1 := by simp [Mm.make, bc]
  have hE := t_enter h4 r4t hS4 M4 T4 hr htr (q := m.cells.length) (by rw [bm]; omega) T.th (ca m.cells 0).2 1 0 (fun W K => t_rank_of (h4.keep (by show 0 < 13; decide) K (fun e => e)) (q := none) (by rw [ha]; rfl) (rank_nil W))
  rw [bm] at hE
  refine hE.mono ?_
  clear hE h4 M4 T4 h1 hB hZ1 M1 T1 X1 hS1 x1 x4 hS4
  rintro e w5 ⟨ab, om, ρ5, rfl, hA5, h5, X5, la, lo⟩
  have l5 : w4.heap.size ≤ w5.heap.size := X5.keeps.size
  have hB5 := hB4.keep (by show 0 < 7; decide) X5.keeps (fun e => e.elim (fun e => S0 (by rw [r4B] at e; exact e)) (fun e => by have e : B = tb := e; omega))
  have hZ5 := hZ4.keep (by show 0 < 26; decide) X5.keeps (fun e => e.elim (fun e => S0 (by rw [r4Z] at e; exact e)) n2)
  have r5Z' : ρ5 w.heap.size = 0 := (X5.old _ (by omega)).trans r4Z
  have X5 := X4.trans X5 (fun _ _ e => e) (fun _ _ e => e)
  have nQ : ∀ k, k < om ∨ w5.heap.size ≤ k → ¬ (Sc.Q ⟨mb, wb, gb, db, .slice none 0 0, none, .slice none 0 0, om, []⟩ k) := fun k hk e => by
    rcases hk with hk | hk
    · rcases e with e | e | e | e
      · have e : k = om := e
        omega
      · cases e
      · cases e
      · cases e
    · have := hA5.qlt e
      omega
  have l5a : ab < w5.heap.size := hA5.alt
  generalize hrw : enterRow T T.th 1 s.atts.length = rw0' at *
  obtain ⟨w6, hw6⟩ : ∃ w6, w6 = w5.alloc (.cells #[.int .i64 0, .int .i64 0, .int .i64 0, .int .i64 0, .int .i64 0, .int .i64 0, .int .i64 0, .int .i64 0, .int .i64 0, .int .i64 0, .int .i64 0, .int .i64 0, .int .i64 0, .bool false, .bool false, .bool false, .int .i64 0, .bool false, .int .i64 0, .int .i64 0, .bool false, .bool false, .int .i64 0, .int .i64 0, .bool false, .int .i64 0] 36) := ⟨_, rfl⟩
  have k6 : Keeps (fun _ => False) w5 w6 := by rw [hw6]; exact (Keeps.refl _ w5).alloc _
  have hc6 : CL w6 w5.heap.size Ro.zero.cells := by rw [hw6]; exact CL.made _ Ro.zero.cells _
  have m1 : ¬ B = w5.heap.size := by omega
  have m2 : ¬ tb = w5.heap.size := by omega
  have m3 : ¬ w.heap.size = w5.heap.size := by omega
  have m4 : ¬ w5.heap.size = B := by omega
  have m5 : ¬ w5.heap.size = ab := by omega
  have m6 := nQ w5.heap.size (.inr (Nat.le_refl _))
  have rN : ρ5 w5.heap.size = 0 := hA5.st.bnd _ (Nat.le_refl _)
  go_wp2_with (rw [← hw6]; clear hw6; refine wpList_store_cl rfl 36 _ _ rfl w5.heap.size 0 26 _ rfl rfl rfl hc6 (by show 26 ≤ 26; decide) i46 (all_oneCell_toArray (by simp [Ro.cells, Value.oneCell'])) ?_; intro w7 hc7 k7 hsz7; clear hsz7)
  have hr7 : CL w7 w5.heap.size rw0'.cells := hc7
  have K7 : Keeps (fun k => k = w5.heap.size) w5 w7 := (k6.mono (fun _ _ e => e.elim)).trans k7
  have hB7 := hB5.keep (by show 0 < 7; decide) K7 m1
  clear hc6 hc7 k6 k7
  have b3 := hB7.c 3 _ rfl
  have b4 := hB7.c 4 _ rfl
  have b5 := hB7.c 5 _ rfl
  have b6 := hB7.c 6 _ rfl
  have r10 := hr7.c 10 _ rfl
  have zr10 := hr7.z 10 (by show 10 < 26; decide)
  have r11 := hr7.c 11 _ rfl
  have zr11 := hr7.z 11 (by show 11 < 26; decide)
  have r12 := hr7.c 12 _ rfl
  have zr12 := hr7.z 12 (by show 12 < 26; decide)
  have r13 := hr7.c 13 _ rfl
  have zr13 := hr7.z 13 (by show 13 < 26; decide)
  obtain ⟨N, HN⟩ : ∃ N, Hid (w5.heap.size = N) := ⟨_, rfl⟩
  rw [HN.out] at hr7 m1 m2 m3 m4 m5 m6 rN K7 r10 r11 r12 r13 zr10 zr11 zr12 zr13 ⊢
  go_region_held3 (fun w' => w'.cell? ⟨B, 3, none⟩ = some (.int .i64 q3) ∧ w'.cell? ⟨B, 4, none⟩ = some (.int .i64 q4) ∧ w'.cell? ⟨B, 5, none⟩ = some (.int .i64 q5) ∧ w'.cell? ⟨B, 6, none⟩ = some (.bool q6)) (go_keep) (fail)
  rename_i hHeld
  clear hHeld b3 b4 b5 b6 r10 r11 r12 r13 zr10 zr11 zr12 zr13
  have k8 : Keeps (fun k => k = N) w7 (((((w7.setCell ⟨N, 10, none⟩ (.int .i64 q3)).setCell ⟨N, 11, none⟩ (.int .i64 q4)).setCell ⟨N, 12, none⟩ (.int .i64 q5)).setCell ⟨N, 13, none⟩ (.bool q6)).drew) := (((((Keeps.refl _ w7).setA 10 (.int .i64 q3)).setA 11 (.int .i64 q4)).setA 12 (.int .i64 q5)).setA 13 (.bool q6)).drew
  have hr8 : CL (((((w7.setCell ⟨N, 10, none⟩ (.int .i64 q3)).setCell ⟨N, 11, none⟩ (.int .i64 q4)).setCell ⟨N, 12, none⟩ (.int .i64 q5)).setCell ⟨N, 13, none⟩ (.bool q6)).drew) N (rw0'.acc ⟨q0, q1, q2, q3, q4, q5, q6⟩).cells := ((((hr7.set (o := 10) (by show 10 < 26; decide) (.int .i64 q3)).set (o := 11) (by show 11 < 26; decide) (.int .i64 q4)).set (o := 12) (by show 12 < 26; decide) (.int .i64 q5)).set (o := 13) (by show 13 < 26; decide) (.bool q6)).drew
  have K8 := K7.trans k8
  clear hr7 k8 K7 hB7
  generalize ((((w7.setCell ⟨N, 10, none⟩ (.int .i64 q3)).setCell ⟨N, 11, none⟩ (.int .i64 q4)).setCell ⟨N, 12, none⟩ (.int .i64 q5)).setCell ⟨N, 13, none⟩ (.bool q6)).drew = w8 at *
  have h8 := h5.keep (by show 0 < 13; decide) K8 m2
  have hZ8 := hZ5.keep (by show 0 < 26; decide) K8 m3
  have hA8 := hA5.far K8 rN m5 m6
  have lN : w5.heap.size ≤ N := by rw [HN.out]; exact Nat.le_refl _
  have X8 : Fr (fun z => z = tb) u j w w8 ρ ρ5 := X5.trans (Fr.of_keeps K8 (fun _ _ e => e)) (fun _ _ e => e) (fun i hi e => by omega)
  have hg8 := run_row hr8
  clear K8
  obtain ⟨rz, HR⟩ : ∃ rz, Hid (rw0'.acc ⟨q0, q1, q2, q3, q4, q5, q6⟩ = rz) := ⟨_, rfl⟩
  rw [HR.out] at hr8 hg8
  go_wp2_with (first | (refine wpList_load_run rfl 36 _ rfl ⟨N, 0, none⟩ rfl _ hg8 ?_; clear hg8) | (refine wpList_store_cl rfl 36 _ _ rfl w.heap.size 0 26 _ rfl rfl rfl hZ8 (by show 26 ≤ 26; decide) i46 (all_oneCell_toArray (by simp [Ro.cells, Value.oneCell'])) ?_; intro w9 hz9 k9 hsz9; clear hsz9))
  have hr9 := run_row (r := rz) hz9
  have la' : w.heap.size < ab := by omega
  have lo' : w.heap.size < om := by omega
  have r5Z : ρ5 w.heap.size = 0 := r5Z'
  refine bodyPost_ret (v := .tuple #[.agg rz.cells.toArray, .int .i64 0]) ?_ rfl ⟨by rw [HQ.out, HR.out], ab, om, ρ5, hA8.far k9 r5Z (by omega) (nQ _ (.inl lo')), h8.keep (by show 0 < 13; decide) k9 n1, X8.trans (Fr.of_keeps k9 (fun _ _ e => e)) (fun _ _ e => e) (fun i hi e => by omega), by omega, by omega⟩
  rw [results_cell_tmp rfl]
  simp [asAddr, hr9, Result.andThen]
end
end Go.Proofs.YtgjndhbfjofkeaaGreatDoor

