import Derived.Test.YthchbcfecconbaaGreatDoorSe
namespace Go.Proofs.YthchbcfecconbaaGreatDoor
open Go.RowKit Go.Deep Go.ChangeShapes Go.WideShapes Go.ChangeAt
theorem ISL.keepN {w w' : World} {a : Option Addr} {l : List Ins} {S : Nat → Prop} (h : ISL w a l) (k : Keeps S w w') (hS : ∀ b off, a = some ⟨b, off, none⟩ → ¬ S b) : ISL w' a l := fun i hi => by
  obtain ⟨b, off, e, hc⟩ := h i hi
  exact ⟨b, off, e, fun j v hv => k.cell (hc j v hv) (hS b off e)⟩
theorem isl_own {W : World} {base n : Nat} {v : Value} {l : List Ins} (h : W.ownsRow base 69 11 v n (icl l)) (hn : l.length = n) : ∃ a cap, v = .slice a n cap ∧ ISL W a l ∧ ∀ g off, a = some ⟨g, off, none⟩ → base ≤ g ∧ g < W.heap.size := by
  have hb := owns_baseD h
  have hlt := owns_lt' h
  obtain ⟨a, cap, rfl, hI⟩ := isl_of_owns h hn
  exact ⟨a, cap, rfl, hI, fun g off e => by subst e; exact ⟨hb g rfl, hlt g rfl⟩⟩
theorem ilI : Tryz.prog.underlying 45 = some (.slice 26) := by kernel_rfl
theorem il0 : (Tryz.prog.info? 26).map (fun i => (i.zero, i.size, i.bytes)) = some (some (.slice none 0 0), 1, 24) := by kernel_rfl
/-- The programs that the law makes, in a list of lists. -/
structure LP (W1 Wr : World) (lv : Value) (i : Nat) (ps : List (List Ins)) (X : Nat → Option Addr) (XC : Nat → Nat) : Prop where
  o : Wr.ownsRow W1.heap.size 26 1 lv i ((List.range i).map (fun j => .slice (X j) (ps.getD j []).length (XC j)))
  c : ∀ j, j < i → ISL Wr (X j) (ps.getD j [])
  b : ∀ j, j < i → ∀ b off, X j = some ⟨b, off, none⟩ → b < Wr.heap.size ∧ lv.ownBlock ≠ some b
theorem LP.first {W1 : World} {ps : List (List Ins)} (X : Nat → Option Addr) (XC : Nat → Nat) : LP W1 W1 (.slice none 0 0) 0 ps X XC := ⟨World.ownsRow_nil _ _ _ _, fun j hj => by omega, fun j hj => by omega⟩
theorem LP.next {W1 Wr w2 : World} {lv : Value} {i : Nat} {ps : List (List Ins)} {X : Nat → Option Addr} {XC : Nat → Nat} (h : LP W1 Wr lv i ps X XC) (kb : W1.heap.size ≤ Wr.heap.size) (k2 : Keeps (fun _ => False) Wr w2) {a : Option Addr} {c : Nat} (hN : ISL w2 a (ps.getD i [])) (hB : ∀ g off, a = some ⟨g, off, none⟩ → Wr.heap.size ≤ g ∧ g < w2.heap.size) (hi : (i + 1) * 24 ≤ 140737488355328) :
    ∃ v' w', (Builtin.append_ #[45, 45] 45 #[lv, .slice (some ⟨w2.heap.size, 0, none⟩) 1 1]).run Tryz.prog (w2.alloc (.cells #[.slice a (ps.getD i []).length c] 26)) = .ok v' w' ∧ LP W1 w' v' (i + 1) ps (fun j => if j = i then a else X j) (fun j => if j = i then c else XC j) ∧ Keeps (fun b => lv.ownBlock = some b) w2 w' := by
  obtain ⟨v', w', hr, ho, kk, hbl⟩ := append_gen ilI il0 rfl (k2.owns h.o (fun _ _ e => e)) (Nat.le_trans kb k2.size) hi (.slice a (ps.getD i []).length c) rfl
  have hvb : ∀ b off, a = some ⟨b, off, none⟩ → lv.ownBlock ≠ some b := fun b off e e' => by have := owns_lt' h.o b e'; have := hB b off e; omega
  refine ⟨v', w', hr, ⟨?_, fun j hj => ?_, fun j hj => ?_⟩, kk⟩
  · rw [List.range_succ, List.map_append]
    rw [List.map_congr_left (g := fun j => .slice (X j) (ps.getD j []).length (XC j)) (fun j hj => by rw [if_neg (by simp at hj; omega), if_neg (by simp at hj; omega)])]
    simpa using ho
  · by_cases e : j = i
    · subst e
      rw [if_pos rfl]
      exact hN.keepN kk hvb
    · rw [if_neg e]
      exact ((h.c j (by omega)).keep k2).keepN kk (fun b off e => (h.b j (by omega) b off e).2)
  · have hs := kk.size
    have hs2 := k2.size
    by_cases e : j = i
    · subst e
      rw [if_pos rfl]
      intro b off e
      refine ⟨by have := hB b off e; omega, fun e' => ?_⟩
      rcases hbl with hb' | hb'
      · exact hvb b off e (hb' ▸ e')
      · rw [hb'] at e'; injection e' with e'; have := hB b off e; omega
    · rw [if_neg e]
      intro b off e
      have := h.b j (by omega) b off e
      refine ⟨by omega, fun e' => ?_⟩
      rcases hbl with hb' | hb'
      · exact this.2 (hb' ▸ e')
      · rw [hb'] at e'; injection e' with e'; omega
theorem getP_of {ps : List (List Ins)} {i : Nat} {p : List Ins} (h : ps[i]? = some p) : ps.getD i [] = p := by rw [List.getD_eq_getElem?_getD, h]; rfl
theorem lp_pll {W1 Wr : World} {lv : Value} {ps : List (List Ins)} {X : Nat → Option Addr} {XC : Nat → Nat} (h : LP W1 Wr lv ps.length ps X XC) : ∃ al cl, lv = .slice al ps.length cl ∧ PLL Wr al ps := by
  by_cases h0 : 0 < ps.length
  · obtain ⟨g, cap, rfl, _, _, _, hc⟩ := own_some h.o h0
    refine ⟨_, cap, rfl, fun i p hp => ?_⟩
    have hi := (List.getElem?_eq_some_iff.1 hp).1
    have e := getP_of hp
    have c1 : Wr.cell? ⟨g, i, none⟩ = some (.slice (X i) (ps.getD i []).length (XC i)) := hc i _ (by rw [List.getElem?_map, List.getElem?_range hi]; rfl)
    have c2 := h.c i hi
    rw [e] at c1 c2
    exact ⟨g, 0, X i, XC i, rfl, by rw [Nat.zero_add]; exact c1, c2⟩
  · have hn : ps = [] := List.eq_nil_of_length_eq_zero (by omega)
    subst hn
    rcases h.o.2 with ⟨rfl, e⟩ | ⟨g, cap, cur, rfl, _⟩
    · exact ⟨none, 0, rfl, fun i p hp => by simp at hp⟩
    · exact ⟨_, cap, rfl, fun i p hp => by simp at hp⟩
/-- What stands behind the three copies. -/
structure PP2 (w2 w8 : World) (os : List Int) (N : Nat) (ak : Option Addr) (g6 c6 : Nat) : Prop where
  k : Keeps (fun _ => False) w2 w8
  nk : NUM w8 ak os
  nr : NUM w8 (some ⟨g6, 0, none⟩) os
  e7 : w8.cell? ⟨g6, N, none⟩ = some (.int .i64 77)
  e8 : w8.cell? ⟨g6, N + 1, none⟩ = some (.int .i64 78)
  h6 : N + 2 ≤ c6
  bk : ∀ b off, ak = some ⟨b, off, none⟩ → b < w8.heap.size
theorem preps2 {w2 : World} {ao : Option Addr} {os : List Int} {N co : Nat} (hN : os.length = N) (hO : NUM w2 ao os) (hob : (N + 2) * 8 ≤ 140737488355328) (hoz : ao = none → co = 0) :
    ∃ ak ck w3 a5 c5 w5 g6 c6 w6,
      (Builtin.append_ #[23, 23] 23 #[.slice (some ⟨w2.heap.size, 0, none⟩) 0 0, .slice ao N co]).run Tryz.prog (w2.alloc (.cells #[] 2)) = .ok (.slice ak N ck) w3 ∧
      (Builtin.append_ #[23, 23] 23 #[.slice (some ⟨w3.heap.size, 0, none⟩) 0 0, .slice ao N co]).run Tryz.prog (w3.alloc (.cells #[] 2)) = .ok (.slice a5 N c5) w5 ∧
      (Builtin.append_ #[23, 23] 23 #[.slice a5 N c5, .slice (some ⟨w5.heap.size, 0, none⟩) 2 2]).run Tryz.prog (w5.alloc (.cells #[.int .i64 77, .int .i64 78] 2)) = .ok (.slice (some ⟨g6, 0, none⟩) (N + 2) c6) w6 ∧
      PP2 w2 w6 os N ak g6 c6 := by
  obtain ⟨v3, w3, r3, o3, k3⟩ := copy_nd co hO hoz (by omega)
  obtain ⟨v5, w5, r5, o5, k5⟩ := copy_nd co (hO.keep k3) hoz (by omega)
  rw [hN] at r3 o3 r5 o5
  obtain ⟨v6, w6, r6, o6, k6⟩ := append_two o5 k5.size (by omega) 77 78
  have k36 : Keeps (fun _ => False) w3 w6 := k5.trans' k6 (fun _ _ e => e) (fun i hi e => by have := owns_baseD o5 i e; omega)
  obtain ⟨ak, ck, rfl, nk, bk, _⟩ := num_of_owns o3
  obtain ⟨a5, c5, rfl, _⟩ := num_of_owns o5
  obtain ⟨g6, c6, rfl, h6, b6, l6, e6⟩ := own_some o6 (by omega)
  refine ⟨ak, ck, w3, a5, c5, w5, g6, c6, w6, r3, r5, r6, ⟨k3.trans k36, nk.keep k36, num_pre e6, e6 _ _ ?_, e6 _ _ ?_, h6, ?_⟩⟩
  · rw [nvs_app, List.getElem?_append_right (by unfold nvs; rw [List.length_map]; omega)]
    unfold nvs
    rw [List.length_map, hN, Nat.sub_self]
    rfl
  · rw [nvs_app, List.getElem?_append_right (by unfold nvs; rw [List.length_map]; omega)]
    unfold nvs
    rw [List.length_map, hN, show N + 1 - N = 1 by omega]
    rfl
  · intro b off e
    have := owns_lt' o3 b (bk b off e)
    have := k36.size
    omega
/-- What both Series answer, laid beside one another. -/
theorem serp_form {w w' : World} {ps : List (List Ins)} {os : List Int} {fuel : Int} {v : Value} {x : Int} (h : SerP w w' ps os fuel v x) :
    ∃ av Nv cv g, ∃ B : Nat → Nat, ∃ M : Nat → List Int, ∃ F : Nat → Rs × Nat, v = .slice av Nv cv ∧ Nv ≤ ps.length ∧ (0 < Nv → os.length ≤ 16) ∧ (0 < Nv → av = some ⟨g, 0, none⟩) ∧ AP w.heap.size w' g Nv os.length B M ∧
      (∀ i, i < Nv → ∀ j u, ([.int .i64 (F i).1.oc, .int .i64 (F i).1.rs, .slice (some ⟨B i, 0, none⟩) os.length os.length, .int .i64 ((F i).2 : Int)] : List Value)[j]? = some u → w'.cell? ⟨g, i * 4 + j, none⟩ = some u) ∧
      ∀ w3 w4 v' x', DSerP w3 w4 ps os fuel v' x' → x' = x ∧ ∃ aw cw, v' = .slice aw Nv cw ∧ ∀ i, i < Nv → ∃ b ai ci, aw = some ⟨b, 0, none⟩ ∧ NUM w4 ai (M i) ∧ ∀ j u, ([.int .i64 (F i).1.oc, .int .i64 (F i).1.rs, .slice ai os.length ci, .int .i64 ((F i).2 : Int)] : List Value)[j]? = some u → w4.cell? ⟨b, i * 4 + j, none⟩ = some u := by
  have nap : AP w.heap.size w' 0 0 os.length (fun _ => 0) (fun _ => []) := ⟨fun i hi => by omega, fun i hi => by omega, fun i hi => by omega, fun i hi => by omega, fun i j _ hj => by omega⟩
  rcases h with ⟨h0, rfl, rfl⟩ | ⟨h0, h1, rfl, rfl⟩ | ⟨h0, h1, rfl, B, hS⟩
  · refine ⟨none, 0, 0, 0, fun _ => 0, fun _ => [], fun _ => (rs0, 0), rfl, Nat.zero_le _, fun h => absurd h (Nat.lt_irrefl _), fun h => absurd h (Nat.lt_irrefl _), nap, fun i hi => by omega, fun w3 w4 v' x' hd => ?_⟩
    rcases hd with ⟨_, rfl, rfl⟩ | ⟨h, _⟩ | ⟨h, _⟩
    · exact ⟨rfl, none, 0, rfl, fun i hi => by omega⟩
    · exact absurd h h0
    · exact absurd h h0
  · refine ⟨none, 0, 0, 0, fun _ => 0, fun _ => [], fun _ => (rs0, 0), rfl, Nat.zero_le _, fun h => absurd h (Nat.lt_irrefl _), fun h => absurd h (Nat.lt_irrefl _), nap, fun i hi => by omega, fun w3 w4 v' x' hd => ?_⟩
    rcases hd with ⟨h, _⟩ | ⟨_, _, rfl, rfl⟩ | ⟨_, h, _⟩
    · exact absurd h0 h
    · exact ⟨rfl, none, 0, rfl, fun i hi => by omega⟩
    · exact absurd h h1
  · have h16 := (rfs_ok h1).1
    obtain ⟨av, cv, g, rfl, hav, hcl, hgb⟩ : ∃ av cv g, v = .slice av ps.length cv ∧ (0 < ps.length → av = some ⟨g, 0, none⟩) ∧ (∀ j u, (alc (grA ps os fuel.toNat) (fun i => .slice (some ⟨B i, 0, none⟩) os.length os.length) ps.length)[j]? = some u → w'.cell? ⟨g, j, none⟩ = some u) ∧ (0 < ps.length → v.ownBlock = some g) := by
      by_cases hp : 0 < ps.length
      · obtain ⟨g, cap, rfl, _, _, _, hc⟩ := own_some hS.o hp
        exact ⟨_, cap, g, rfl, fun _ => rfl, hc, fun _ => rfl⟩
      · have e : ps.length = 0 := by omega
        rcases hS.o.2 with ⟨rfl, e'⟩ | ⟨g, cap, cur, rfl, _⟩
        · exact ⟨none, 0, 0, by rw [e], fun h => absurd h hp, fun j u hu => by rw [e] at hu; simp [alc] at hu, fun h => absurd h hp⟩
        · exact ⟨_, cap, g, rfl, fun h => absurd h hp, fun j u hu => by rw [e] at hu; simp [alc] at hu, fun h => absurd h hp⟩
    have hcl' : ∀ i, i < ps.length → ∀ j u, ([.int .i64 (grA ps os fuel.toNat i).1.oc, .int .i64 (grA ps os fuel.toNat i).1.rs, .slice (some ⟨B i, 0, none⟩) os.length os.length, .int .i64 ((grA ps os fuel.toNat i).2 : Int)] : List Value)[j]? = some u → w'.cell? ⟨g, i * 4 + j, none⟩ = some u := fun i hi j u hu => hcl _ _ (alc_get (grA ps os fuel.toNat) (fun i => .slice (some ⟨B i, 0, none⟩) os.length os.length) hi j u hu)
    refine ⟨av, ps.length, cv, g, B, fun i => obA ps os fuel.toNat (i + 1), grA ps os fuel.toNat, rfl, Nat.le_refl _, fun _ => h16, hav, ⟨fun i hi => hcl' i hi 2 _ rfl, hS.c, fun i hi => obA_len _ _ _ _, fun i hi => ⟨(hS.b i hi).1, (hS.b i hi).2.1, fun e => (hS.b i hi).2.2 (by rw [hgb (by omega), e])⟩, hS.d⟩, hcl', fun w3 w4 v' x' hd => ?_⟩
    rcases hd with ⟨h, _⟩ | ⟨_, h, _⟩ | ⟨_, _, rfl, A, C, hD⟩
    · exact absurd h0 h
    · exact absurd h1 h
    · refine ⟨rfl, ?_⟩
      by_cases hp : 0 < ps.length
      · obtain ⟨b, cap, rfl, _, _, _, hc⟩ := own_some hD.o hp
        exact ⟨_, cap, rfl, fun i hi => ⟨b, A i, C i, rfl, hD.c i hi, fun j u hu => hc _ _ (alc_get (grA ps os fuel.toNat) (fun i => .slice (A i) os.length (C i)) hi j u hu)⟩⟩
      · have e : ps.length = 0 := by omega
        rcases hD.o.2 with ⟨rfl, e'⟩ | ⟨b, cap, cur, rfl, _⟩
        · exact ⟨none, 0, by rw [e], fun i hi => absurd hi (by omega)⟩
        · exact ⟨_, cap, rfl, fun i hi => absurd hi (by omega)⟩
end Go.Proofs.YthchbcfecconbaaGreatDoor
