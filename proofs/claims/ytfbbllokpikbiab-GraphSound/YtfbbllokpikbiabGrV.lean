import Derived.Test.YtfbbllokpikbiabGrX
namespace Go.Proofs.Ytfbbllokpikbiab
open Go.RowKit Go.Shelf Go.Lib Go.Sort Go.Maps
attribute [local go_sem] Oper.semAt_some run_store_nf run_store_f
/-- A list of the call's own, its cells laid anew. -/
theorem row_laidE {α : Type} [Inhabited α] {enc : α → Value} {w : World} {base g cap n k : Nat} {e : TypeId} {d : Array α} {xs : List Value} {os : Array Obj} (h : w.ownsRow base e 1 (.slice (some ⟨g, 0, none⟩) n cap) n xs) (hF : d.size = n) :
    (grow (putRow enc (Sort.ahead w k) g 0 d) os).ownsRow base e 1 (.slice (some ⟨g, 0, none⟩) n cap) n (d.toList.map enc) ∧ Keeps (fun b => b = g) w (grow (putRow enc (Sort.ahead w k) g 0 d) os) := by
  have hgr : w.grownBy (grow (putRow enc (Sort.ahead w k) g 0 d) os) (some g) := by
    refine ⟨rfl, rfl, rfl, by simp, fun i hi hne => ?_⟩
    rw [heap_grow_old _ _ (by simpa using hi)]
    have hgi : g ≠ i := fun e => hne (by rw [e])
    simp [putRow, mapBlock, Sort.ahead, Array.getElem?_modify, hgi]
  refine ⟨⟨by simpa using hF, ?_⟩, (Keeps.refl _ w).grown hgr (fun _ _ e => by cases e; rfl)⟩
  rcases h.2 with ⟨h0, _⟩ | ⟨g', cap', cur, hv, hb, hc, h1, h2, h3, -⟩
  · cases h0
  injection hv with hv1 _ hv2
  injection hv1 with hv1
  injection hv1 with hv1 _ _
  subst hv1 hv2
  refine .inr ⟨g, cap, putCells enc 0 d cur, rfl, hb, ?_, h1, h2, by simp [putCells, h3], ?_⟩
  · have hg : g < w.heap.size := (Array.getElem?_eq_some_iff.1 hc).1
    rw [heap_grow_old _ _ (by simpa using hg)]
    simp [putRow, mapBlock, Sort.ahead, Array.getElem?_modify, hc, onCells]
  · apply List.ext_getElem?
    intro j
    by_cases hj : j < n * 1
    · have hjd : j < d.size := by omega
      rw [List.getElem?_take_of_lt hj, List.getElem?_map, Array.getElem?_toList, Array.getElem?_toList, Array.getElem?_eq_getElem hjd]
      simp [putCells, hjd, show j < cur.size by omega]
    · rw [List.getElem?_take_eq_none (by omega), List.getElem?_eq_none (by simp; omega)]
theorem isNaN_anyL (x : Int) (w : World) : Calls Try.prog 49 #[.int .i64 x] w fun e w' => e = .returned (.bool false) ∧ w' = w := by
  have s1 : (x != x) = false := by simp
  go_enter Try.func49, Try.ntmps49
  go_wp2
  go_ret
  exact ⟨rfl, rfl⟩
theorem compare_anyL (x y : Int) (w : World) : Calls Try.prog 34 #[.int .i64 x, .int .i64 y] w fun e w' => e = .returned (.int .i64 (Lib.compareInt x y)) ∧ w' = w := by
  have hn := fun x => isNaN_anyL x w
  unfold Lib.compareInt
  by_cases h1 : x < y
  · have s1 : decide (x < y) = true := decide_eq_true h1
    rw [if_pos h1]
    go_enter Try.func34, Try.ntmps34
    go_wp2_with (go_at_call 49; refine (hn _).mono ?_; rintro e w9 ⟨rfl, rfl⟩)
    go_ret
    exact ⟨rfl, rfl⟩
  · have s1 : decide (x < y) = false := decide_eq_false h1
    rw [if_neg h1]
    by_cases h2 : x > y
    · have s2 : decide (x > y) = true := decide_eq_true h2
      have s3 : decide (y < x) = true := decide_eq_true h2
      have s4 : y < x := h2
      rw [if_pos h2]
      go_enter Try.func34, Try.ntmps34
      go_wp2_with (go_at_call 49; refine (hn _).mono ?_; rintro e w9 ⟨rfl, rfl⟩)
      go_ret
      exact ⟨rfl, rfl⟩
    · have s2 : decide (x > y) = false := decide_eq_false h2
      have s3 : decide (y < x) = false := decide_eq_false h2
      have s4 : ¬ y < x := h2
      rw [if_neg h2]
      go_enter Try.func34, Try.ntmps34
      go_wp2_with (go_at_call 49; refine (hn _).mono ?_; rintro e w9 ⟨rfl, rfl⟩)
      go_ret
      exact ⟨rfl, rfl⟩
set_option maxHeartbeats 600000 in
set_option maxRecDepth 100000 in
set_option maxHeartbeats 600000 in
theorem soI : SoI := by
  intro w base gb cap L hO h0 hn
  have hcl := own_clL hO
  have hgw := owns_lt' hO gb rfl
  obtain ⟨zs, hzs⟩ : ∃ zs : List Int, zs = L.map (fun i : Nat => (i : Int)) := ⟨_, rfl⟩
  have hzl : zs.length = L.length := by rw [hzs, List.length_map]
  have hpv : pvs L = zs.map (Value.int .i64) := by unfold pvs; rw [hzs, List.map_map]; rfl
  have hH : Holds (Value.int .i64) w gb 0 zs.toArray := fun j hj => by
    have hj' : j < zs.length := by simpa using hj
    rw [Nat.zero_add]
    refine ⟨?_, hcl.z j (by rw [pvs_len]; omega)⟩
    have e : (pvs L)[j]? = some (.int .i64 zs[j]) := by rw [hpv, List.getElem?_map, List.getElem?_eq_getElem hj']; rfl
    rw [getElem!_pos _ j hj]
    exact hcl.c j _ e
  have hcon := AnyM.slices_Sort_int Try.sortI gb 0 cap zs w hH hgw (by omega)
  rw [hzl] at hcon
  change Calls Try.prog 31 _ _ _ at hcon
  refine hcon.mono ?_
  rintro e w' ⟨rfl, k, os, rfl⟩
  have hms : (zs.mergeSort fun x y => decide (x ≤ y)).length = L.length := by rw [List.length_mergeSort, hzl]
  obtain ⟨r1, r2⟩ := row_laidE (k := k) (os := os) (enc := Value.int .i64) (d := (zs.mergeSort fun x y => decide (x ≤ y)).toArray) hO (by simpa using hms)
  have hperm : (zs.mergeSort fun x y => decide (x ≤ y)).Perm zs := List.mergeSort_perm _ _
  have hnn : ∀ z ∈ (zs.mergeSort fun x y => decide (x ≤ y)), ((z.toNat : Nat) : Int) = z := fun z hz => by
    have := (hperm.mem_iff).1 hz
    rw [hzs] at this
    obtain ⟨m, -, rfl⟩ := List.mem_map.1 this
    rfl
  refine ⟨rfl, (zs.mergeSort fun x y => decide (x ≤ y)).map Int.toNat, ?_, ?_, ?_, r2⟩
  · have h := hperm.map Int.toNat
    have e : zs.map Int.toNat = L := by rw [hzs, List.map_map]; exact List.map_id _
    rwa [e] at h
  · have hs := List.pairwise_mergeSort (le := fun x y : Int => decide (x ≤ y)) (fun a b c h1 h2 => by simp at *; omega) (fun a b => by simp; omega) zs
    rw [List.pairwise_map]
    refine hs.imp_of_mem (fun {a b} ha hb h => ?_)
    simp at h
    have h1 := hnn a ha
    have h2 := hnn b hb
    omega
  · have e : pvs ((zs.mergeSort fun x y => decide (x ≤ y)).map Int.toNat) = (zs.mergeSort fun x y => decide (x ≤ y)).map (Value.int .i64) := by
      unfold pvs
      rw [List.map_map]
      refine List.map_congr_left (fun z hz => ?_)
      show Value.int .i64 ((z.toNat : Nat) : Int) = _
      rw [hnn z hz]
    rw [e]
    simpa using r1
set_option maxHeartbeats 1000000 in
set_option maxRecDepth 100000 in
theorem cmpQ_any {W : World} {b1 b2 n1 n2 c1 c2 : Nat} {X Y : Int} (h01 : 0 < n1) (h02 : 0 < n2) (h1 : W.cell? ⟨b1, 0, none⟩ = some (.int .i64 X)) (h2 : W.cell? ⟨b2, 0, none⟩ = some (.int .i64 Y)) : Calls Try.prog 33 #[.slice (some ⟨b1, 0, none⟩) n1 c1, .slice (some ⟨b2, 0, none⟩) n2 c2] W fun e w' => e = .returned (.int .i64 (Lib.compareInt X Y)) ∧ ∃ q, w' = W.drewN q := by
  have hcm := fun w => compare_anyL X Y w
  generalize Lib.compareInt X Y = r at *
  have i1 : (0 : Int) < (n1 : Int) := by omega
  have i2 : (0 : Int) < (n2 : Int) := by omega
  go_enter Try.func33, Try.ntmps33
  go_wp2_with fail
  go_quiet ((go_at_call 34; exact Calls.quiet_of_same (hcm _)))
  go_wp2
  go_ret
  exact ⟨rfl, _, rfl⟩
theorem ltQ {N : Nat} (f : Fin N → Int) (x y : Fin N) : ltOf (fun x y : Fin N => Lib.compareInt (f x) (f y)) x y = decide (f x < f y) := by
  unfold ltOf Lib.compareInt
  by_cases h1 : f x < f y
  · simp [h1]
  · by_cases h2 : f y < f x <;> simp [h1, h2]
theorem swoQ {N : Nat} (f : Fin N → Int) : SWO (ltOf fun x y : Fin N => Lib.compareInt (f x) (f y)) where
  irrefl x := by rw [ltQ]; simp
  trans x y z h1 h2 := by rw [ltQ] at *; simp at *; omega
  ntrans x y z h1 h2 := by rw [ltQ] at *; simp at *; omega
/-- A part whose first number can be read. -/
structure PqR (w : World) (q : Pq) : Prop where
  n : 0 < q.l.length
  c : ∃ b, q.a = some ⟨b, 0, none⟩ ∧ w.cell? ⟨b, 0, none⟩ = some (.int .i64 (q.l.getD 0 0 : Nat))
theorem pqr_of {w : World} {base : Nat} {q : Pq} (h : w.ownsRow base 3 1 q.val q.l.length (pvs q.l)) (h0 : 0 < q.l.length) : PqR w q := by
  obtain ⟨b, off, e, hc⟩ := PM.of h 0 h0
  obtain ⟨pb, pc, e2, -, -⟩ := row_some h h0
  injection e2 with e2 _ _
  rw [e2] at e
  injection e with e
  injection e with e1 e3 _
  subst e1 e3
  exact ⟨h0, pb, e2, hc⟩
set_option maxHeartbeats 600000 in
theorem soQ {w : World} {base : Nat} {qs : List Pq} {av : Value} (hO : w.ownsRow base 23 1 av qs.length (qs.map Pq.val)) (hR : ∀ q ∈ qs, PqR w q) (hA : ∀ q ∈ qs, ∀ b, q.a = some ⟨b, 0, none⟩ → av.ownBlock ≠ some b) (hn : qs.length ≤ 4096) : Calls Try.prog 32 #[av, .func (.func 33) #[] #[]] w fun e w' => e = .returned (.tuple #[]) ∧ ∃ qs' : List Pq, qs'.Perm qs ∧ qs'.Pairwise (fun p q => p.l.getD 0 0 ≤ q.l.getD 0 0) ∧ w'.ownsRow base 23 1 av qs.length (qs'.map Pq.val) ∧ Keeps (fun i => av.ownBlock = some i) w w' := by
  by_cases h0 : qs = []
  · subst h0
    obtain ⟨a', c', rfl, -⟩ := own_slice hO
    refine (AnyF.slices_SortFunc_none { Try.sortQ with } a' c' _ w).mono ?_
    rintro e w' ⟨rfl, rfl⟩
    exact ⟨rfl, [], List.Perm.refl _, List.Pairwise.nil, hO, Keeps.refl _ _⟩
  · have hL : 0 < qs.length := List.length_pos_iff.2 h0
    rcases hO.2 with ⟨-, h00⟩ | ⟨g, cap', cur, rfl, hbg, -⟩
    · omega
    haveI : Inhabited (Fin qs.length) := ⟨⟨0, hL⟩⟩
    obtain ⟨enc, henc⟩ : ∃ enc : Fin qs.length → Value, enc = fun i => (qs[i.1]'i.2).val := ⟨_, rfl⟩
    obtain ⟨f, hf⟩ : ∃ f : Fin qs.length → Int, f = fun i => (((qs[i.1]'i.2).l.getD 0 0 : Nat) : Int) := ⟨_, rfl⟩
    obtain ⟨F, hF⟩ : ∃ F : List (Fin qs.length), F = List.ofFn id := ⟨_, rfl⟩
    have hFl : F.length = qs.length := by rw [hF, List.length_ofFn]
    have hFq : F.map (fun i => qs[i.1]'i.2) = qs := by
      rw [hF, List.map_ofFn]
      exact List.ofFn_getElem
    have hFe : F.map enc = qs.map Pq.val := by
      conv => rhs; rw [← hFq]
      rw [List.map_map, henc]
      rfl
    have hcl := own_clL hO
    have hgw := owns_lt' hO g rfl
    have hH : Holds enc w g 0 F.toArray := fun j hj => by
      have hj' : j < F.length := by simpa using hj
      rw [Nat.zero_add]
      refine ⟨?_, hcl.z j (by rw [List.length_map]; omega)⟩
      have e : (qs.map Pq.val)[j]? = some (enc F[j]) := by rw [← hFe, List.getElem?_map, List.getElem?_eq_getElem hj']; rfl
      rw [getElem!_pos _ j hj]
      exact hcl.c j _ e
    have eg : ∀ args w, (callFunc 33 args).run Try.prog w = .ok (.enter 33 args) w := enters_of Try.func33 (by kernel_rfl) rfl
    have hcmp : CmpReads Try.prog 33 #[] enc (fun x y => Lib.compareInt (f x) (f y)) g 0 F.toArray.size w := fun m os dk hs x y => by
      obtain ⟨-, kk⟩ := row_laidE (k := m) (os := os) (enc := enc) (d := dk) hO (by rw [hs]; simpa using hFl)
      have hx : qs[x.1]'x.2 ∈ qs := List.getElem_mem x.2
      have hy : qs[y.1]'y.2 ∈ qs := List.getElem_mem y.2
      obtain ⟨nx, bx, ex, cx⟩ := hR _ hx
      obtain ⟨ny, by_, ey, cy⟩ := hR _ hy
      have nbx : ¬ bx = g := fun e => hA _ hx bx ex (by rw [e]; rfl)
      have nby : ¬ by_ = g := fun e => hA _ hy by_ ey (by rw [e]; rfl)
      have h := cmpQ_any (c1 := (qs[x.1]'x.2).c) (c2 := (qs[y.1]'y.2).c) nx ny (kk.cell cx (fun e => nbx e)) (kk.cell cy (fun e => nby e))
      have e1 : enc x = .slice (some ⟨bx, 0, none⟩) (qs[x.1]'x.2).l.length (qs[x.1]'x.2).c := by rw [henc]; show Pq.val _ = _; unfold Pq.val; rw [ex]
      have e2 : enc y = .slice (some ⟨by_, 0, none⟩) (qs[y.1]'y.2).l.length (qs[y.1]'y.2).c := by rw [henc]; show Pq.val _ = _; unfold Pq.val; rw [ey]
      have e3 : f x = (((qs[x.1]'x.2).l.getD 0 0 : Nat) : Int) := by rw [hf]
      have e4 : f y = (((qs[y.1]'y.2).l.getD 0 0 : Nat) : Int) := by rw [hf]
      rw [← e1, ← e2, ← e3, ← e4] at h
      exact h
    have hcon := Any.slices_SortFunc Try.sortQ enc (fun x => by rw [henc]; rfl) (fun x y => Lib.compareInt (f x) (f y)) (swoQ f) 33 #[] g 0 cap' F.toArray w eg hcmp.lays hH hgw (by
      have h1 : F.toArray.size = qs.length := by simpa using hFl
      rw [h1]
      exact by omega)
    have e0 : F.toArray.size = qs.length := by simpa using hFl
    rw [e0] at hcon
    change Calls Try.prog 32 _ _ _ at hcon
    refine hcon.mono ?_
    rintro e w' ⟨rfl, d', k, os, hp, hs, rfl⟩
    have hd : d'.size = qs.length := by rw [hp.1]; exact e0
    have hperm := hp.2.2
    have qx : ∀ (a : Array (Fin qs.length)) (m : Nat), a.size = m → (a.extract 0 m).toList = a.toList := fun a m h => by subst h; simp
    rw [qx d' _ hd, qx F.toArray _ e0] at hperm
    obtain ⟨r1, r2⟩ := row_laidE (k := k) (os := os) (enc := enc) (d := d') hO hd
    refine ⟨rfl, d'.toList.map (fun i => qs[i.1]'i.2), ?_, ?_, ?_, r2.mono (fun i _ e => by have e : i = g := e; rw [e]; rfl)⟩
    · have h := hperm.map (fun i : Fin qs.length => qs[i.1]'i.2)
      rw [show F.toArray.toList = F from rfl, hFq] at h
      exact h
    · rw [List.pairwise_map, List.pairwise_iff_getElem]
      intro i j hi hj hij
      have hi' : i < d'.size := by simpa using hi
      have hj' : j < d'.size := by simpa using hj
      have := hs i j (Nat.zero_le _) hij (by omega)
      rw [ltQ, getElem!_pos _ i hi', getElem!_pos _ j hj', hf] at this
      have := of_decide_eq_false this
      dsimp only at this
      simp only [Array.getElem_toList]
      omega
    · rw [List.map_map]
      have e : d'.toList.map (Pq.val ∘ fun i => qs[i.1]'i.2) = d'.toList.map enc := by rw [henc]; rfl
      rw [e]
      exact r1
end Go.Proofs.Ytfbbllokpikbiab
