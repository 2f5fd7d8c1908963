import Derived.Test.YthmlppepgcjfgaaBdY
import Derived.Deep.Slices
import Derived.ChangeArms
import Derived.ChangeSlices
import Derived.DataReads
import Derived.OpenShut
namespace Go.Proofs.Ythmlppepgcjfgaa
open Go.RowKit Go.Deep Go.ChangeShapes Go.WideShapes Go.ChangeAt
theorem bulk_one {H : Type} (d : DataW H) : 1 ≤ Rows.uptoBulk d := by
  cases d with
  | lit l => cases l <;> simp [Rows.uptoBulk]
  | nil => simp [Rows.uptoBulk]
  | ptr d => simp [Rows.uptoBulk]
  | slice elems spare => simp [Rows.uptoBulk]
  | agg parts => simp [Rows.uptoBulk]
  | iface t d => simp [Rows.uptoBulk]
  | map entries => simp [Rows.uptoBulk]
  | held h => simp [Rows.uptoBulk]
theorem bulk_part {H : Type} {d : DataW H} {l : List (DataW H)} (h : d ∈ l) : Rows.uptoBulk d ≤ Rows.uptoBulkAll l := by
  induction l with
  | nil => cases h
  | cons x r ih =>
    simp only [Rows.uptoBulkAll]
    cases List.mem_cons.1 h with
    | inl e => subst e; omega
    | inr e => have := ih e; omega
theorem bulk_length {H : Type} (l : List (DataW H)) : l.length ≤ Rows.uptoBulkAll l := by
  induction l with
  | nil => simp [Rows.uptoBulkAll]
  | cons x r ih => have := bulk_one x; simp only [Rows.uptoBulkAll, List.length_cons]; omega
theorem bulk_slice {H : Type} (elems spare : List (DataW H)) : elems.length + spare.length + 1 ≤ Rows.uptoBulk (.slice elems spare) := by
  have h1 := bulk_length elems
  have h2 := bulk_length spare
  simp only [Rows.uptoBulk]
  omega
/-- How long a list may be. -/
theorem bulk_bound {H : Type} {l : List (DataW H)} (hk : Rows.uptoSmall H l = true) {d : DataW H} (hd : d ∈ l) {len : Nat} (h : len = 0 ∨ ∃ es ss, d = .slice es ss ∧ len ≤ es.length + ss.length) : len ≤ 1048576 := by
  have hb : Rows.uptoBulkAll l ≤ 1048576 := of_decide_eq_true hk
  rcases h with h | ⟨es, ss, rfl, hle⟩
  · omega
  · have h1 := bulk_part hd
    have h2 := bulk_slice es ss
    omega
theorem chooseLt {α : Type} [Inhabited α] {n : Nat} {p : Nat → α → Prop} (h : ∀ i, i < n → ∃ x, p i x) : ∃ f : Nat → α, ∀ i, i < n → p i (f i) := by
  refine ⟨fun i => if hi : i < n then (h i hi).choose else default, fun i hi => ?_⟩
  simp only [hi, dif_pos]
  exact (h i hi).choose_spec
theorem bulkAll_app {H : Type} (l m : List (DataW H)) : Rows.uptoBulkAll (l ++ m) = Rows.uptoBulkAll l + Rows.uptoBulkAll m := by
  induction l with
  | nil => simp [Rows.uptoBulkAll]
  | cons x r ih => simp only [List.cons_append, Rows.uptoBulkAll, ih]; omega
/-- A slice that was handed in, element by element. -/
theorem open_each {H : Type} {enc : TypeId × Value → H} {P : Program} {W : World} {t e : TypeId} {fuel sz : Nat} {a : Option Addr} {len cap : Nat} {x : DataW H × List MemPlace} (ht : P.underlying t = some (.slice e)) (ce : P.cellsOf e = sz) (hsz : 0 < sz) (h0 : 0 < len) (h : DataW.trod enc P W 0 (fun _ => true) true fuel t [.slice a len cap] = some x) :
    ∃ b off D ss, a = some ⟨b, off, none⟩ ∧ x.1 = .slice ((List.range len).map D) ss ∧ ∀ i, i < len → ∃ cs n pl, DataW.trod enc P W 0 (fun _ => true) true n e cs = some (D i, pl) ∧ cs.length = sz ∧ ∀ j v, cs[j]? = some v → W.cell? ⟨b, off + i * sz + j, none⟩ = some v := by
  rcases open_slice ht h with ⟨hcs, _⟩ | ⟨a', len', cap', m, n, D, Pl, hcs, hb, hl, hm, hmm, rfl, hx⟩
  · simp at hcs; omega
  simp at hcs
  obtain ⟨rfl, rfl, rfl⟩ := hcs
  have hlm : len ≤ m := by rw [hmm]; split <;> omega
  obtain ⟨cs0, g1, g2⟩ := hx 0 (by omega)
  rw [ce] at g1
  obtain ⟨_, hlen, hcell⟩ := World.cells?_some g1
  obtain ⟨b, off, spot⟩ := a'
  have hspot : spot = none := by
    have e0 := hcell 0 hsz
    rw [List.getElem?_eq_getElem (by omega)] at e0
    simpa [Addr.add] using World.cell?_spot e0
  subst hspot
  refine ⟨b, off, D, _, rfl, rfl, fun i hi => ?_⟩
  obtain ⟨cs, h1, h2⟩ := hx i (by omega)
  rw [ce] at h1
  obtain ⟨_, hlen, hcell⟩ := World.cells?_some h1
  refine ⟨cs, n, _, h2, hlen, fun j v hv => ?_⟩
  have hj : j < sz := by rw [← hlen]; exact (List.getElem?_eq_some_iff.1 hv).1
  have := hcell j hj
  rw [add_atT, add_atT] at this
  rw [this]
  exact hv
theorem getD_range {α : Type} (f : Nat → α) (d : α) {n i : Nat} (h : i < n) : ((List.range n).map f).getD i d = f i := by
  rw [List.getD_eq_getElem?_getD, List.getElem?_map, List.getElem?_range h]
  rfl
theorem el_sw {H : Type} {enc : TypeId × Value → H} {P : Program} {W : World} {e : TypeId} {f0 f1 f2 f3 f4 f5 f6 g0 g1 g2 : Field} {fuel : Nat} {cs : List Value} {x : DataW H × List MemPlace} (hs : P.underlying e = some (.struct #[f0, f1, f2, f3, f4, f5, f6])) (hv : P.underlying f6.type = some (.struct #[g0, g1, g2])) (ce : P.cellsOf e = 9) (o0 : f0.offset = 0) (o1 : f1.offset = 1) (o2 : f2.offset = 2) (o3 : f3.offset = 3) (o4 : f4.offset = 4) (o5 : f5.offset = 5) (o6 : f6.offset = 6) (p0 : g0.offset = 0) (p1 : g1.offset = 1) (p2 : g2.offset = 2) (c0 : P.cellsOf f0.type = 1) (c1 : P.cellsOf f1.type = 1) (c2 : P.cellsOf f2.type = 1) (c3 : P.cellsOf f3.type = 1) (c4 : P.cellsOf f4.type = 1) (c5 : P.cellsOf f5.type = 1) (c6 : P.cellsOf f6.type = 3) (d0 : P.cellsOf g0.type = 1) (d1 : P.cellsOf g1.type = 1) (d2 : P.cellsOf g2.type = 1) (u0 : P.underlying f0.type = some (.int .i64)) (u1 : P.underlying f1.type = some (.int .i64)) (u2 : P.underlying f2.type = some (.int .i64)) (u3 : P.underlying f3.type = some .bool) (u4 : P.underlying f4.type = some .bool) (u5 : P.underlying f5.type = some .bool) (y0 : P.underlying g0.type = some (.int .i64)) (y1 : P.underlying g1.type = some (.int .i64)) (y2 : P.underlying g2.type = some .bool)
    (h : DataW.trod enc P W 0 (fun _ => true) true fuel e cs = some x) : ∃ q : Sw, cs = q.cells ∧ I64 q.object := by
  obtain ⟨xs, k, hk, hxy, hlen, hxl, hf⟩ := DataW.trod_struct hs h
  rw [ce] at hlen
  match xs, hxl, cs, hlen with
  | [z0, z1, z2, z3, z4, z5, z6], _, [v0, v1, v2, v3, v4, v5, v6, v7, v8], _ =>
    have h0 := hf 0 f0 rfl
    have h1 := hf 1 f1 rfl
    have h2 := hf 2 f2 rfl
    have h3 := hf 3 f3 rfl
    have h4 := hf 4 f4 rfl
    have h5 := hf 5 f5 rfl
    have h6 := hf 6 f6 rfl
    simp [o0, c0, o1, c1, o2, c2, o3, c3, o4, c4, o5, c5, o6, c6] at h0 h1 h2 h3 h4 h5 h6
    obtain ⟨xs2, k2, _, _, _, hxl2, hf2⟩ := DataW.trod_struct hv h6
    match xs2, hxl2 with
    | [t0, t1, t2], _ =>
      have j0 := hf2 0 g0 rfl
      have j1 := hf2 1 g1 rfl
      have j2 := hf2 2 g2 rfl
      simp [p0, p1, p2, d0, d1, d2] at j0 j1 j2
      obtain ⟨q0, r0, _, w0⟩ := DataW.trod_int u0 h0
      obtain ⟨q1, r1, _, w1⟩ := DataW.trod_int u1 h1
      obtain ⟨q2, r2, _, w2⟩ := DataW.trod_int u2 h2
      obtain ⟨q3, r3, _⟩ := DataW.trod_bool u3 h3
      obtain ⟨q4, r4, _⟩ := DataW.trod_bool u4 h4
      obtain ⟨q5, r5, _⟩ := DataW.trod_bool u5 h5
      obtain ⟨m0, s0, _, _⟩ := DataW.trod_int y0 j0
      obtain ⟨m1, s1, _, _⟩ := DataW.trod_int y1 j1
      obtain ⟨m2, s2, _⟩ := DataW.trod_bool y2 j2
      simp at r0 r1 r2 r3 r4 r5 s0 s1 s2
      subst r0 r1 r2 r3 r4 r5 s0 s1 s2
      exact ⟨⟨q0, q1, q2, q3, q4, q5, m0, m1, m2⟩, rfl, i64_of_wf w1⟩
theorem el_wo {H : Type} {enc : TypeId × Value → H} {P : Program} {W : World} {e : TypeId} {f0 f1 g0 g1 g2 : Field} {fuel : Nat} {cs : List Value} {x : DataW H × List MemPlace} (hs : P.underlying e = some (.struct #[f0, f1])) (hv : P.underlying f1.type = some (.struct #[g0, g1, g2])) (ce : P.cellsOf e = 4) (o0 : f0.offset = 0) (o1 : f1.offset = 1) (p0 : g0.offset = 0) (p1 : g1.offset = 1) (p2 : g2.offset = 2) (c0 : P.cellsOf f0.type = 1) (c1 : P.cellsOf f1.type = 3) (d0 : P.cellsOf g0.type = 1) (d1 : P.cellsOf g1.type = 1) (d2 : P.cellsOf g2.type = 1) (u0 : P.underlying f0.type = some (.int .i64)) (y0 : P.underlying g0.type = some (.int .i64)) (y1 : P.underlying g1.type = some (.int .i64)) (y2 : P.underlying g2.type = some .bool)
    (h : DataW.trod enc P W 0 (fun _ => true) true fuel e cs = some x) : ∃ q : Wo, cs = q.cells ∧ I64 q.object := by
  obtain ⟨xs, k, hk, hxy, hlen, hxl, hf⟩ := DataW.trod_struct hs h
  rw [ce] at hlen
  match xs, hxl, cs, hlen with
  | [z0, z1], _, [v0, v1, v2, v3], _ =>
    have h0 := hf 0 f0 rfl
    have h1 := hf 1 f1 rfl
    simp [o0, c0, o1, c1] at h0 h1
    obtain ⟨xs2, k2, _, _, _, hxl2, hf2⟩ := DataW.trod_struct hv h1
    match xs2, hxl2 with
    | [t0, t1, t2], _ =>
      have j0 := hf2 0 g0 rfl
      have j1 := hf2 1 g1 rfl
      have j2 := hf2 2 g2 rfl
      simp [p0, p1, p2, d0, d1, d2] at j0 j1 j2
      obtain ⟨q0, r0, _, w0⟩ := DataW.trod_int u0 h0
      obtain ⟨m0, s0, _, _⟩ := DataW.trod_int y0 j0
      obtain ⟨m1, s1, _, _⟩ := DataW.trod_int y1 j1
      obtain ⟨m2, s2, _⟩ := DataW.trod_bool y2 j2
      simp at r0 s0 s1 s2
      subst r0 s0 s1 s2
      exact ⟨⟨q0, m0, m1, m2⟩, rfl, i64_of_wf w0⟩
theorem open_sws {H : Type} {enc : TypeId × Value → H} {W : World} {fuel : Nat} {a : Option Addr} {len cap : Nat} {x : DataW H × List MemPlace} (h : DataW.trod enc Try.prog W 0 (fun _ => true) true fuel 29 [.slice a len cap] = some x) : ∃ l : List Sw, l.length = len ∧ SWM W a l ∧ (∀ s ∈ l, I64 s.object) ∧ (a = none → cap = 0) ∧ len ≤ Rows.uptoBulk x.1 := by
  have hz := open_capZ Try.underlying29 h
  by_cases h0 : len = 0
  · subst h0
    exact ⟨[], rfl, (fun i hi => absurd hi (Nat.not_lt_zero i)), (fun _ h => nomatch h), hz, Nat.zero_le _⟩
  obtain ⟨b, off, D, ss, rfl, hx, he⟩ := open_each (sz := 9) Try.underlying29 (by kernel_rfl) (by decide) (by omega) h
  have each : ∀ i, i < len → ∃ q : Sw, I64 q.object ∧ ∀ j v, q.cells[j]? = some v → W.cell? ⟨b, off + i * 9 + j, none⟩ = some v := fun i hi => by
    obtain ⟨cs, n, pl, h1, h2, h3⟩ := he i hi
    obtain ⟨q, rfl, h4⟩ := el_sw Try.underlying46 Try.underlying44 (by kernel_rfl) rfl rfl rfl rfl rfl rfl rfl rfl rfl rfl (by kernel_rfl) (by kernel_rfl) (by kernel_rfl) (by kernel_rfl) (by kernel_rfl) (by kernel_rfl) (by kernel_rfl) (by kernel_rfl) (by kernel_rfl) (by kernel_rfl) (by kernel_rfl) (by kernel_rfl) (by kernel_rfl) (by kernel_rfl) (by kernel_rfl) (by kernel_rfl) (by kernel_rfl) (by kernel_rfl) (by kernel_rfl)  h1
    exact ⟨q, h4, h3⟩
  haveI : Inhabited Sw := ⟨sw0⟩
  obtain ⟨V, hV⟩ := chooseLt each
  refine ⟨(List.range len).map V, by simp, fun i hi => ?_, fun s hs => ?_, hz, ?_⟩
  · have hi : i < len := by simpa using hi
    refine ⟨b, off, rfl, fun j v hv => ?_⟩
    rw [getD_range V sw0 hi] at hv
    exact (hV i hi).2 j v hv
  · obtain ⟨i, hi, rfl⟩ := List.mem_map.1 hs
    exact (hV i (by simpa using hi)).1
  · rw [hx]
    have := bulk_slice ((List.range len).map D) ss
    simp at this
    omega
theorem open_wos {H : Type} {enc : TypeId × Value → H} {W : World} {fuel : Nat} {a : Option Addr} {len cap : Nat} {x : DataW H × List MemPlace} (h : DataW.trod enc Try.prog W 0 (fun _ => true) true fuel 30 [.slice a len cap] = some x) : ∃ l : List Wo, l.length = len ∧ WOM W a l ∧ (∀ s ∈ l, I64 s.object) ∧ (a = none → cap = 0) ∧ len ≤ Rows.uptoBulk x.1 := by
  have hz := open_capZ Try.underlying30 h
  by_cases h0 : len = 0
  · subst h0
    exact ⟨[], rfl, (fun i hi => absurd hi (Nat.not_lt_zero i)), (fun _ h => nomatch h), hz, Nat.zero_le _⟩
  obtain ⟨b, off, D, ss, rfl, hx, he⟩ := open_each (sz := 4) Try.underlying30 (by kernel_rfl) (by decide) (by omega) h
  have each : ∀ i, i < len → ∃ q : Wo, I64 q.object ∧ ∀ j v, q.cells[j]? = some v → W.cell? ⟨b, off + i * 4 + j, none⟩ = some v := fun i hi => by
    obtain ⟨cs, n, pl, h1, h2, h3⟩ := he i hi
    obtain ⟨q, rfl, h4⟩ := el_wo Try.underlying48 Try.underlying44 (by kernel_rfl) rfl rfl rfl rfl rfl (by kernel_rfl) (by kernel_rfl) (by kernel_rfl) (by kernel_rfl) (by kernel_rfl) (by kernel_rfl) (by kernel_rfl) (by kernel_rfl) (by kernel_rfl)  h1
    exact ⟨q, h4, h3⟩
  haveI : Inhabited Wo := ⟨wo0⟩
  obtain ⟨V, hV⟩ := chooseLt each
  refine ⟨(List.range len).map V, by simp, fun i hi => ?_, fun s hs => ?_, hz, ?_⟩
  · have hi : i < len := by simpa using hi
    refine ⟨b, off, rfl, fun j v hv => ?_⟩
    rw [getD_range V wo0 hi] at hv
    exact (hV i hi).2 j v hv
  · obtain ⟨i, hi, rfl⟩ := List.mem_map.1 hs
    exact (hV i (by simpa using hi)).1
  · rw [hx]
    have := bulk_slice ((List.range len).map D) ss
    simp at this
    omega
theorem el_tx {H : Type} {enc : TypeId × Value → H} {P : Program} {W : World} {e : TypeId} {f0 f1 f2 f3 f4 f5 f6 f7 f8 f9 f10 : Field} {fuel : Nat} {cs : List Value} {x : DataW H × List MemPlace} (hs : P.underlying e = some (.struct #[f0, f1, f2, f3, f4, f5, f6, f7, f8, f9, f10])) (ce : P.cellsOf e = 11) (o0 : f0.offset = 0) (o1 : f1.offset = 1) (o2 : f2.offset = 2) (o3 : f3.offset = 3) (o4 : f4.offset = 4) (o5 : f5.offset = 5) (o6 : f6.offset = 6) (o7 : f7.offset = 7) (o8 : f8.offset = 8) (o9 : f9.offset = 9) (o10 : f10.offset = 10) (c0 : P.cellsOf f0.type = 1) (c1 : P.cellsOf f1.type = 1) (c2 : P.cellsOf f2.type = 1) (c3 : P.cellsOf f3.type = 1) (c4 : P.cellsOf f4.type = 1) (c5 : P.cellsOf f5.type = 1) (c6 : P.cellsOf f6.type = 1) (c7 : P.cellsOf f7.type = 1) (c8 : P.cellsOf f8.type = 1) (c9 : P.cellsOf f9.type = 1) (c10 : P.cellsOf f10.type = 1) (u0 : P.underlying f0.type = some (.int .i64)) (u1 : P.underlying f1.type = some (.int .i64)) (u2 : P.underlying f2.type = some (.int .i64)) (u3 : P.underlying f3.type = some (.int .i64)) (u4 : P.underlying f4.type = some (.int .i64)) (u5 : P.underlying f5.type = some (.int .i64)) (u6 : P.underlying f6.type = some (.int .i64)) (u7 : P.underlying f7.type = some (.int .i64)) (u8 : P.underlying f8.type = some (.int .i64)) (s9 : ∃ t, P.underlying f9.type = some (.slice t)) (s10 : ∃ t, P.underlying f10.type = some (.slice t))
    (h : DataW.trod enc P W 0 (fun _ => true) true fuel e cs = some x) : ∃ (q : Tv) (sa : Option Addr) (sn sc : Nat) (wa : Option Addr) (wn wc : Nat) (k : Nat) (y z : DataW H × List MemPlace), cs = q.cells (.slice sa sn sc) (.slice wa wn wc) ∧ I64 q.end_ ∧ DataW.trod enc P W 0 (fun _ => true) true k f9.type [.slice sa sn sc] = some y ∧ DataW.trod enc P W 0 (fun _ => true) true k f10.type [.slice wa wn wc] = some z ∧ Rows.uptoBulk y.1 + Rows.uptoBulk z.1 ≤ Rows.uptoBulk x.1 := by
  obtain ⟨xs, k, hk, hxy, hlen, hxl, hf⟩ := DataW.trod_struct hs h
  rw [ce] at hlen
  match xs, hxl, cs, hlen with
  | [z0, z1, z2, z3, z4, z5, z6, z7, z8, z9, z10], _, [v0, v1, v2, v3, v4, v5, v6, v7, v8, v9, v10], _ =>
    have h0 := hf 0 f0 rfl
    have h1 := hf 1 f1 rfl
    have h2 := hf 2 f2 rfl
    have h3 := hf 3 f3 rfl
    have h4 := hf 4 f4 rfl
    have h5 := hf 5 f5 rfl
    have h6 := hf 6 f6 rfl
    have h7 := hf 7 f7 rfl
    have h8 := hf 8 f8 rfl
    have h9 := hf 9 f9 rfl
    have h10 := hf 10 f10 rfl
    simp [o0, c0, o1, c1, o2, c2, o3, c3, o4, c4, o5, c5, o6, c6, o7, c7, o8, c8, o9, c9, o10, c10] at h0 h1 h2 h3 h4 h5 h6 h7 h8 h9 h10
    obtain ⟨q0, r0, _, w0⟩ := DataW.trod_int u0 h0
    obtain ⟨q1, r1, _, w1⟩ := DataW.trod_int u1 h1
    obtain ⟨q2, r2, _, w2⟩ := DataW.trod_int u2 h2
    obtain ⟨q3, r3, _, w3⟩ := DataW.trod_int u3 h3
    obtain ⟨q4, r4, _, w4⟩ := DataW.trod_int u4 h4
    obtain ⟨q5, r5, _, w5⟩ := DataW.trod_int u5 h5
    obtain ⟨q6, r6, _, w6⟩ := DataW.trod_int u6 h6
    obtain ⟨q7, r7, _, w7⟩ := DataW.trod_int u7 h7
    obtain ⟨q8, r8, _, w8⟩ := DataW.trod_int u8 h8
    simp at r0 r1 r2 r3 r4 r5 r6 r7 r8
    subst r0 r1 r2 r3 r4 r5 r6 r7 r8
    obtain ⟨t9, s9⟩ := s9
    obtain ⟨sa, sn, sc, rfl⟩ : ∃ a len cap, v9 = .slice a len cap := by
      rcases open_slice s9 h9 with ⟨hc, _⟩ | ⟨a', len', cap', m, n, D, Pl, hc, _⟩
      · simp at hc; exact ⟨_, _, _, hc⟩
      · simp at hc; exact ⟨_, _, _, hc⟩
    obtain ⟨t10, s10⟩ := s10
    obtain ⟨wa, wn, wc, rfl⟩ : ∃ a len cap, v10 = .slice a len cap := by
      rcases open_slice s10 h10 with ⟨hc, _⟩ | ⟨a', len', cap', m, n, D, Pl, hc, _⟩
      · simp at hc; exact ⟨_, _, _, hc⟩
      · simp at hc; exact ⟨_, _, _, hc⟩
    refine ⟨⟨q0, q1, q2, q3, q4, q5, q6, q7, q8, [], []⟩, sa, sn, sc, wa, wn, wc, k, z9, z10, rfl, i64_of_wf w7, h9, h10, ?_⟩
    rw [hxy]
    simp only [List.map_cons, List.map_nil, Rows.uptoBulk, Rows.uptoBulkAll]
    omega
/-- What is handed in. -/
structure TxD (W : World) (a : Option Addr) (ts : List Tv) (p : Nat → Lp) (bulk : Nat) : Prop where
  t : TXM W a ts p
  z : LpZ p ts.length
  s : sumT ts ≤ bulk
  l : ts.length ≤ bulk
  e : ∀ i, i < ts.length → I64 (ts.getD i tv0).end_
  i : ∀ i, i < ts.length → (∀ s ∈ (ts.getD i tv0).saws, I64 s.object) ∧ (∀ q ∈ (ts.getD i tv0).wrs, I64 q.object)
theorem TxD.tsi {W : World} {a : Option Addr} {ts : List Tv} {p : Nat → Lp} {bulk : Nat} (h : TxD W a ts p bulk) (hb : bulk ≤ 1048576) : TsI ts := ⟨Nat.le_trans h.l hb, Nat.le_trans h.s hb, h.e, h.i⟩
theorem sumT_range (V : Nat → Tv) {H : Type} (D : Nat → DataW H) : ∀ n, (∀ i, i < n → (V i).saws.length + (V i).wrs.length ≤ Rows.uptoBulk (D i)) → sumT ((List.range n).map V) ≤ Rows.uptoBulkAll ((List.range n).map D)
  | 0, _ => Nat.zero_le _
  | n + 1, h => by
    have ih := sumT_range V D n (fun i hi => h i (by omega))
    have hn := h n (by omega)
    rw [List.range_succ, List.map_append, List.map_append, bulkAll_app]
    have e : sumT ((List.range n).map V ++ [n].map V) = sumT ((List.range n).map V) + ((V n).wrs.length + (V n).saws.length) := by
      unfold sumT
      rw [List.map_append, List.sum_append]
      simp
    rw [e]
    simp only [List.map_cons, List.map_nil, Rows.uptoBulkAll]
    omega
theorem open_txs {H : Type} {enc : TypeId × Value → H} {W : World} {fuel : Nat} {a : Option Addr} {len cap : Nat} {x : DataW H × List MemPlace} (h : DataW.trod enc Try.prog W 0 (fun _ => true) true fuel 22 [.slice a len cap] = some x) : ∃ (ts : List Tv) (p : Nat → Lp), ts.length = len ∧ TxD W a ts p (Rows.uptoBulk x.1) := by
  by_cases h0 : len = 0
  · subst h0
    exact ⟨[], fun _ => ⟨none, 0, none, 0⟩, rfl, ⟨(fun i hi => absurd hi (Nat.not_lt_zero i)), (fun i hi => absurd hi (Nat.not_lt_zero i)), Nat.zero_le _, Nat.zero_le _, (fun i hi => absurd hi (Nat.not_lt_zero i)), (fun i hi => absurd hi (Nat.not_lt_zero i))⟩⟩
  obtain ⟨b, off, D, ss, rfl, hx, he⟩ := open_each (sz := 11) Try.underlying22 (by kernel_rfl) (by decide) (by omega) h
  have each : ∀ i, i < len → ∃ q : Tv × Lp, (∀ j v, (q.1.clp q.2)[j]? = some v → W.cell? ⟨b, off + i * 11 + j, none⟩ = some v) ∧ SWM W q.2.sa q.1.saws ∧ WOM W q.2.wa q.1.wrs ∧ (q.2.sa = none → q.2.sc = 0) ∧ (q.2.wa = none → q.2.wc = 0) ∧ I64 q.1.end_ ∧ (∀ s ∈ q.1.saws, I64 s.object) ∧ (∀ s ∈ q.1.wrs, I64 s.object) ∧ q.1.saws.length + q.1.wrs.length ≤ Rows.uptoBulk (D i) := fun i hi => by
    obtain ⟨cs, n, pl, h1, h2, h3⟩ := he i hi
    obtain ⟨q, sa, sn, sc, wa, wn, wc, k, y, z, rfl, hI, hy, hz, hbk⟩ := el_tx Try.underlying32 (by kernel_rfl) rfl rfl rfl rfl rfl rfl rfl rfl rfl rfl rfl (by kernel_rfl) (by kernel_rfl) (by kernel_rfl) (by kernel_rfl) (by kernel_rfl) (by kernel_rfl) (by kernel_rfl) (by kernel_rfl) (by kernel_rfl) (by kernel_rfl) (by kernel_rfl) (by kernel_rfl) (by kernel_rfl) (by kernel_rfl) (by kernel_rfl) (by kernel_rfl) (by kernel_rfl) (by kernel_rfl) (by kernel_rfl) (by kernel_rfl) ⟨_, Try.underlying29⟩ ⟨_, Try.underlying30⟩ h1
    obtain ⟨ls, e1, m1, i1, n1, b1⟩ := open_sws hy
    obtain ⟨lw, e2, m2, i2, n2, b2⟩ := open_wos hz
    subst e1 e2
    refine ⟨({ q with saws := ls, wrs := lw }, ⟨sa, sc, wa, wc⟩), h3, m1, m2, n1, n2, hI, i1, i2, ?_⟩
    show ls.length + lw.length ≤ _
    have hbk : Rows.uptoBulk y.1 + Rows.uptoBulk z.1 ≤ Rows.uptoBulk (D i) := hbk
    omega
  haveI : Inhabited (Tv × Lp) := ⟨q0⟩
  obtain ⟨V, hV⟩ := chooseLt each
  have hg : ∀ i, i < len → ((List.range len).map (fun i => (V i).1)).getD i tv0 = (V i).1 := fun i hi => getD_range (fun i => (V i).1) tv0 hi
  have hln : ((List.range len).map (fun i => (V i).1)).length = len := by simp
  have hbulk : Rows.uptoBulkAll ((List.range len).map D) ≤ Rows.uptoBulk x.1 := by
    rw [hx]
    simp only [Rows.uptoBulk]
    omega
  refine ⟨(List.range len).map (fun i => (V i).1), fun i => (V i).2, hln, ⟨fun i hi => ?_, fun i hi => ?_, ?_, ?_, fun i hi => ?_, fun i hi => ?_⟩⟩
  · rw [hln] at hi
    rw [hg i hi]
    exact ⟨⟨b, off, rfl, (hV i hi).1⟩, (hV i hi).2.1, (hV i hi).2.2.1⟩
  · rw [hln] at hi
    exact ⟨(hV i hi).2.2.2.1, (hV i hi).2.2.2.2.1⟩
  · exact Nat.le_trans (sumT_range (fun i => (V i).1) D len (fun i hi => (hV i hi).2.2.2.2.2.2.2.2)) hbulk
  · rw [hln]
    have := bulk_length ((List.range len).map D)
    simp at this
    omega
  · rw [hln] at hi
    rw [hg i hi]
    exact (hV i hi).2.2.2.2.2.1
  · rw [hln] at hi
    rw [hg i hi]
    exact ⟨(hV i hi).2.2.2.2.2.2.1, (hV i hi).2.2.2.2.2.2.2.1⟩
theorem gbuilds_all {W : World} {a : Option Addr} {cap : Nat} {ts : List Tv} {p : Nat → Lp} {bulk : Nat} (h : TxD W a ts p bulk) (hb : bulk ≤ 1048576) : Calls Try.prog 4 #[.slice a ts.length cap] W fun e w' => e = .returned (.bool true) ∧ Below W.heap.size W w' := gbuilds_any h.t h.z (h.tsi hb)
end Go.Proofs.Ythmlppepgcjfgaa
