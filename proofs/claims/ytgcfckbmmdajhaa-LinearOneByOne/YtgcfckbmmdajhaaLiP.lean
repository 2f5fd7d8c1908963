import Derived.Test.YtgcfckbmmdajhaaLiX
namespace Go.Proofs.Ytgcfckbmmdajhaa
open Go.RowKit Go.Shelf Go.Lib Go.Sort Go.Maps
theorem keeps_below {w w' : World} (h : Go.RowKit.Below w.heap.size w w') : Keeps (fun _ => False) w w' := ⟨h.os, h.tape, h.output, h.size, fun k hk _ => h.block k hk⟩
theorem own_clL {W : World} {base n size g cap : Nat} {e : TypeId} {l : List Value} (h : W.ownsRow base e size (.slice (some ⟨g, 0, none⟩) n cap) n l) : CL W g l := by
  have hc := h.cells (g := g) rfl
  rcases h.2 with ⟨e, _⟩ | ⟨g', cap', cur, e, hbg, hg, _⟩
  · cases e
  · injection e with e1 _ e2
    injection e1 with e1
    injection e1 with e1 _ _
    subst e1
    refine ⟨fun o v e => ?_, fun o _ => by simp [World.frozen?, hg]⟩
    have := hc o v e
    rw [add_atT, Nat.zero_add] at this
    exact this
/-- A list of the call's own, its cells laid anew. -/
theorem row_laidE {α : Type} [Inhabited α] {enc : α → Value} {w : World} {base g cap n k : Nat} {e : TypeId} {d : Array α} {xs : List Value} {os : Array Obj} (h : w.ownsRow base e 1 (.slice (some ⟨g, 0, none⟩) n cap) n xs) (hF : d.size = n) :
    (grow (putRow enc (Sort.ahead w k) g 0 d) os).ownsRow base e 1 (.slice (some ⟨g, 0, none⟩) n cap) n (d.toList.map enc) ∧ Keeps (fun b => b = g) w (grow (putRow enc (Sort.ahead w k) g 0 d) os) := by
  have hgr : w.grownBy (grow (putRow enc (Sort.ahead w k) g 0 d) os) (some g) := by
    refine ⟨rfl, rfl, rfl, by simp, fun i hi hne => ?_⟩
    rw [heap_grow_old _ _ (by simpa using hi)]
    have hgi : g ≠ i := fun e => hne (by rw [e])
    simp [putRow, mapBlock, Sort.ahead, Array.getElem?_modify, hgi]
  refine ⟨⟨by simpa using hF, ?_⟩, (Keeps.refl _ w).grown hgr (fun _ _ e => by cases e; rfl)⟩
  rcases h.2 with ⟨h0, _⟩ | ⟨g', cap', cur, hv, hb, hc, h1, h2, h3, -⟩
  · cases h0
  injection hv with hv1 _ hv2
  injection hv1 with hv1
  injection hv1 with hv1 _ _
  subst hv1 hv2
  refine .inr ⟨g, cap, putCells enc 0 d cur, rfl, hb, ?_, h1, h2, by simp [putCells, h3], ?_⟩
  · have hg : g < w.heap.size := (Array.getElem?_eq_some_iff.1 hc).1
    rw [heap_grow_old _ _ (by simpa using hg)]
    simp [putRow, mapBlock, Sort.ahead, Array.getElem?_modify, hc, onCells]
  · apply List.ext_getElem?
    intro j
    by_cases hj : j < n * 1
    · have hjd : j < d.size := by omega
      rw [List.getElem?_take_of_lt hj, List.getElem?_map, Array.getElem?_toList, Array.getElem?_toList, Array.getElem?_eq_getElem hjd]
      simp [putCells, hjd, show j < cur.size by omega]
    · rw [List.getElem?_take_eq_none (by omega), List.getElem?_eq_none (by simp; omega)]
theorem isNaN_anyL (x : Int) (w : World) : Calls Try.prog 33 #[.int .i64 x] w fun e w' => e = .returned (.bool false) ∧ w' = w := by
  have s1 : (x != x) = false := by simp
  go_enter Try.func33, Try.ntmps33
  go_wp2
  go_ret
  exact ⟨rfl, rfl⟩
theorem compare_anyL (x y : Int) (w : World) : Calls Try.prog 22 #[.int .i64 x, .int .i64 y] w fun e w' => e = .returned (.int .i64 (Lib.compareInt x y)) ∧ w' = w := by
  have hn := fun x => isNaN_anyL x w
  unfold Lib.compareInt
  by_cases h1 : x < y
  · have s1 : decide (x < y) = true := decide_eq_true h1
    rw [if_pos h1]
    go_enter Try.func22, Try.ntmps22
    go_wp2_with (go_at_call 33; refine (hn _).mono ?_; rintro e w9 ⟨rfl, rfl⟩)
    go_ret
    exact ⟨rfl, rfl⟩
  · have s1 : decide (x < y) = false := decide_eq_false h1
    rw [if_neg h1]
    by_cases h2 : x > y
    · have s2 : decide (x > y) = true := decide_eq_true h2
      have s3 : decide (y < x) = true := decide_eq_true h2
      have s4 : y < x := h2
      rw [if_pos h2]
      go_enter Try.func22, Try.ntmps22
      go_wp2_with (go_at_call 33; refine (hn _).mono ?_; rintro e w9 ⟨rfl, rfl⟩)
      go_ret
      exact ⟨rfl, rfl⟩
    · have s2 : decide (x > y) = false := decide_eq_false h2
      have s3 : decide (y < x) = false := decide_eq_false h2
      have s4 : ¬ y < x := h2
      rw [if_neg h2]
      go_enter Try.func22, Try.ntmps22
      go_wp2_with (go_at_call 33; refine (hn _).mono ?_; rintro e w9 ⟨rfl, rfl⟩)
      go_ret
      exact ⟨rfl, rfl⟩
set_option maxHeartbeats 600000 in
set_option maxRecDepth 100000 in
theorem cmpP_any {W : World} {bx b off N cap x y : Nat} {X Y : Int} (hb : W.cell? ⟨bx, 0, none⟩ = some (.slice (some ⟨b, off, none⟩) N cap)) (hx : x < N) (hy : y < N) (h1 : W.cell? ⟨b, off + x * 8 + 6, none⟩ = some (.int .i64 X)) (h2 : W.cell? ⟨b, off + y * 8 + 6, none⟩ = some (.int .i64 Y)) : Calls Try.prog 21 #[.int .i64 (x : Int), .int .i64 (y : Int), .pointer (some ⟨bx, 0, none⟩)] W fun e w' => e = .returned (.int .i64 (Lib.compareInt X Y)) ∧ ∃ q, w' = W.drewN q := by
  have hcm := fun w => compare_anyL X Y w
  generalize Lib.compareInt X Y = r at *
  have i1 : (x : Int) < (N : Int) := by omega
  have i2 : (y : Int) < (N : Int) := by omega
  go_enter Try.func21, Try.ntmps21
  go_wp2_with fail
  go_quiet ((go_at_call 22; exact Calls.quiet_of_same (hcm _)))
  go_wp2
  go_ret
  exact ⟨rfl, _, rfl⟩
theorem ltP {N : Nat} (f : Nat → Int) (x y : Fin N) : ltOf (fun x y : Fin N => Lib.compareInt (f x.1) (f y.1)) x y = decide (f x.1 < f y.1) := by
  unfold ltOf Lib.compareInt
  by_cases h1 : f x.1 < f y.1
  · simp [h1]
  · by_cases h2 : f y.1 < f x.1 <;> simp [h1, h2]
theorem swoP {N : Nat} (f : Nat → Int) : SWO (ltOf fun x y : Fin N => Lib.compareInt (f x.1) (f y.1)) where
  irrefl x := by rw [ltP]; simp
  trans x y z h1 h2 := by rw [ltP] at *; simp at *; omega
  ntrans x y z h1 h2 := by rw [ltP] at *; simp at *; omega
def encP {N : Nat} (x : Fin N) : Value := .int .i64 (x.1 : Int)
theorem map_encP {N : Nat} (F : List (Fin N)) : F.map encP = pvs (F.map Fin.val) := by
  unfold pvs
  rw [List.map_map]
  rfl
theorem pmap_val {N : Nat} : ∀ (L : List Nat) (h : ∀ i ∈ L, i < N), (L.pmap (fun i hi => (⟨i, hi⟩ : Fin N)) h).map Fin.val = L
  | [], _ => rfl
  | a :: L, h => by
    rw [List.pmap, List.map_cons, pmap_val L]
set_option maxHeartbeats 600000 in
theorem soP : SoP := by
  intro w bx base a cap l L v hl hbx hlt hb hin hnL hn hO
  by_cases h0 : L = []
  · subst h0
    obtain ⟨a', c', rfl, -⟩ := own_slice hO
    refine (AnyF.slices_SortFunc_none { Try.sortP with } a' c' _ w).mono ?_
    rintro e w' ⟨rfl, rfl⟩
    exact ⟨rfl, [], List.Perm.refl _, List.Pairwise.nil, hO, Keeps.refl _ _⟩
  · have hL : 0 < L.length := List.length_pos_iff.2 h0
    obtain ⟨i0, hi0⟩ := List.exists_mem_of_length_pos hL
    have hpos : 0 < l.length := Nat.lt_of_le_of_lt (Nat.zero_le _) (hin i0 hi0)
    rcases hO.2 with ⟨-, h00⟩ | ⟨g, cap', cur, rfl, hbg, -⟩
    · omega
    haveI : Inhabited (Fin l.length) := ⟨⟨0, hpos⟩⟩
    obtain ⟨F, hF⟩ : ∃ F : List (Fin l.length), F = L.pmap (fun i hi => (⟨i, hi⟩ : Fin l.length)) hin := ⟨_, rfl⟩
    have hFv : F.map Fin.val = L := by rw [hF]; exact pmap_val L hin
    have hFl : F.length = L.length := by rw [← hFv, List.length_map]
    have hcl := own_clL hO
    obtain ⟨b, off, rfl, hbl⟩ := hl.lt hpos
    have hbb := hb hpos b off rfl
    have hgw := owns_lt' hO g rfl
    have hbxw : bx < w.heap.size := World.block_lt_of_cell? _ _ hbx
    have hH : Holds encP w g 0 F.toArray := fun j hj => by
      have hj' : j < F.length := by simpa using hj
      rw [Nat.zero_add]
      refine ⟨?_, hcl.z j (by rw [pvs_len]; omega)⟩
      have e : (pvs L)[j]? = some (encP F[j]) := by rw [← hFv, ← map_encP, List.getElem?_map, List.getElem?_eq_getElem hj']; rfl
      rw [getElem!_pos _ j hj]
      exact hcl.c j _ e
    have eg : ∀ args w, (callFunc 21 args).run Try.prog w = .ok (.enter 21 args) w := enters_of Try.func21 (by kernel_rfl) rfl
    have hcmp : CmpReads Try.prog 21 #[.pointer (some ⟨bx, 0, none⟩)] (encP (N := l.length)) (fun x y => Lib.compareInt (ptOf l x.1) (ptOf l y.1)) g 0 F.toArray.size w := fun m os dk hs x y => by
      obtain ⟨-, kk⟩ := row_laidE (k := m) (os := os) (enc := encP) (d := dk) hO (by rw [hs]; simpa using hFl)
      obtain ⟨b1, o1, e1, hx⟩ := hl x.1 x.2
      obtain ⟨b2, o2, e2, hy⟩ := hl y.1 y.2
      injection e1 with e1
      injection e1 with e11 e12 _
      subst e11 e12
      injection e2 with e2
      injection e2 with e21 e22 _
      subst e21 e22
      exact cmpP_any (kk.cell hbx (fun e => by have e : bx = g := e; omega)) x.2 y.2 (kk.cell (hx 6 _ rfl) (fun e => by have e : b = g := e; omega)) (kk.cell (hy 6 _ rfl) (fun e => by have e : b = g := e; omega))
    have hcon := Any.slices_SortFunc Try.sortP encP (fun _ => rfl) (fun x y => Lib.compareInt (ptOf l x.1) (ptOf l y.1)) (swoP (ptOf l)) 21 #[.pointer (some ⟨bx, 0, none⟩)] g 0 cap' F.toArray w eg hcmp.lays hH hgw (by
      have h1 : F.toArray.size = L.length := by simpa using hFl
      have h2 : L.length ≤ L.length := Nat.le_refl _
      rw [h1]
      exact by omega)
    have e0 : F.toArray.size = L.length := by simpa using hFl
    rw [e0] at hcon
    change Calls Try.prog 20 _ _ _ at hcon
    refine hcon.mono ?_
    rintro e w' ⟨rfl, d', k, os, hp, hs, rfl⟩
    have hd : d'.size = L.length := by rw [hp.1]; exact e0
    have hperm := hp.2.2
    rw [← hd] at hperm
    have q1 : (d'.extract 0 d'.size).toList = d'.toList := by simp
    have q2 : (F.toArray.extract 0 d'.size).toList = F := by rw [hd, ← e0]; simp
    rw [q1, q2] at hperm
    obtain ⟨r1, r2⟩ := row_laidE (k := k) (os := os) (enc := encP) (d := d') hO hd
    refine ⟨rfl, d'.toList.map Fin.val, ?_, ?_, ?_, r2.mono (fun i _ e => by have e : i = g := e; rw [e]; rfl)⟩
    · rw [← hFv]
      exact (hperm.map _).symm
    · rw [List.pairwise_map, List.pairwise_iff_getElem]
      intro i j hi hj hij
      have hi' : i < d'.size := by simpa using hi
      have hj' : j < d'.size := by simpa using hj
      have := hs i j (Nat.zero_le _) hij (by omega)
      rw [ltP, getElem!_pos _ i hi', getElem!_pos _ j hj'] at this
      simpa using this
    · rw [map_encP] at r1
      exact r1
/-- slices.Sort's two contracts here. -/
theorem sortsA (m : Nat) : AnyZI.SortsIn Try.prog Try.sortedA_ren Fence.wide m :=
  ⟨fun blk off cap ss W hH hblk hsz => callsIn_wide.2 (AnyM.slices_Sort_int Try.sortA blk off cap ss W hH hblk hsz),
   fun p cap W => callsIn_wide.2 (AnyM.slices_Sort_int_none Try.sortA p cap W)⟩
theorem has_i64 {w : World} {mb n : Nat} {D : DataW Unit} (hown : w.ownsMap Try.prog 2 unitElem mb n D) {x : Int} (h : Maps.has D (.int .i64 x) = true) : I64 x := by
  obtain ⟨es, rfl, hko⟩ := hown.keysOf
  rw [has_eq, List.any_eq_true] at h
  obtain ⟨p, hp, hs⟩ := h
  obtain ⟨v, hv⟩ := hko p hp
  obtain ⟨y, _, hy, hl⟩ := Maps.keyOf_i64 underL hv
  rw [hy, sameKeyL] at hs
  have := of_decide_eq_true hs
  subst this
  exact i64_wfL hl
set_option maxHeartbeats 1000000 in
theorem numbers_any {w : World} {mb n : Nat} {f : Int → Bool} {S : List Int} (h : SV w mb n f) (hS : FS S n f) (hn : n ≤ 17592186044416) : Calls Try.prog 17 #[.map (some mb)] w fun e w' => ∃ v, e = .returned v ∧ w'.ownsRow w.heap.size 2 1 v S.length (kvs S) ∧ Keeps (fun _ => False) w w' := by
  obtain ⟨D, hown, h2, h3⟩ := h
  refine (callsIn_wide (n := 6)).1 ?_
  have hbl := hown.lt
  have hmax : Maps.size D ≤ maxLen := by rw [h2]; unfold maxLen; omega
  have hbytes : Maps.size D * 8 ≤ 140737488355328 := by rw [h2]; omega
  have hseq : SeqGives Fence.wide 2 Try.prog 40 #[.pointer (some ⟨w.heap.size, 0, none⟩)] encZ (fun ss => ss.Perm (intKeys D)) (Maps.size D) (w.alloc (.cells #[.map (some mb)] 53)) :=
    AnyZI.keys_gives (ρ := Try.keysA_ren) { Try.keysA with } Fence.wide _ trivial rfl (by omega) w.heap.size mb n D _ (by simp) (by simp) (by
      obtain ⟨es, clock, hb, Ft, hs, hD⟩ := hown
      exact ⟨es, clock, (Go.RowKit.Below.heap_alloc _ _ mb hbl).trans hb, Ft, hs, hD⟩)
  have cK : ∀ mb W, CallsIn Fence.wide 5 Try.prog 26 #[.map mb] W fun e w' => e = .returned (.func (.func 40) #[] #[.pointer (some ⟨W.heap.size, 0, none⟩)]) ∧ w' = W.alloc (.cells #[.map mb] 53) := fun mb W => AnyZI.keys_in Try.keysA Fence.wide 5 trivial rfl mb W
  have cS := AnyZI.sorted_in Try.sortedA Fence.wide 5 trivial trivial trivial trivial rfl (by omega) (sortsA _) (enters_of Try.func39 (by kernel_rfl) rfl) 40 #[.pointer (some ⟨w.heap.size, 0, none⟩)] trivial (enters_of Try.func40 (by kernel_rfl) rfl) _ _ hmax hbytes _ hseq
  change CallsIn _ _ Try.prog 25 _ _ _ at cS
  have hfK : Fence.wide.fn 26 := trivial
  have hfS : Fence.wide.fn 25 := trivial
  have HS : Hid (∀ ss : List Int, ss.Perm (intKeys D) → ss.mergeSort (fun x y => decide (x ≤ y)) = S ∧ ss.length = S.length) := fun ss hp => by
    have hSp : S.Perm (intKeys D) := CollectedI.perm (left := fun _ => false) ⟨hS.r.imp (fun {a b} (e : a < b) => by omega), fun x => by
      constructor
      · intro hx
        have hi := hS.i x hx
        exact ⟨by rw [h3 x hi, hS.m x hi]; simp [hx], rfl⟩
      · rintro ⟨hx, -⟩
        have hi := has_i64 hown hx
        rw [h3 x hi, hS.m x hi] at hx
        exact of_decide_eq_true hx⟩ hown keyedL underL (fun _ => rfl)
    have hss := hp.trans hSp.symm
    refine ⟨(mergeSort_of_perm_i hss).trans (List.mergeSort_of_pairwise (hS.r.imp (fun {a b} (e : a < b) => decide_eq_true (by omega)))), hss.length_eq⟩
  refine callsIn_of_wp Try.func17 rfl trivial ?_ rfl
  simp only [Try.ntmps17, List.size_toArray, List.length_cons, List.length_nil, Nat.reduceAdd, Nat.reduceSub, Array.replicate_succ, Array.replicate_zero, List.push_toArray, List.append_toArray, List.nil_append, List.cons_append]
  gi_wp2_with (first
    | (gi_at_call 26; refine (cK _ _).mono ?_; rintro e w' ⟨rfl, rfl⟩)
    | (gi_at_call 25; refine cS.mono ?_; rintro e w' ⟨v, ss, rfl, hSS, hrow, hnil, hb⟩))
  go_ret
  obtain ⟨q1, q2⟩ := HS.out ss hSS
  rw [q1, q2] at hrow
  exact ⟨v, rfl, owns_low hrow (by simp), keeps_below (((Go.RowKit.Below.refl _ w).alloc (Nat.le_refl _) _).trans (hb.mono (by simp)))⟩
end Go.Proofs.Ytgcfckbmmdajhaa
