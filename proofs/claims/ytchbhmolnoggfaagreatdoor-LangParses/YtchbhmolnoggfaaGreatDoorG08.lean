import Derived.Test.YtchbhmolnoggfaaGreatDoorG07
import Derived.Test.YtchbhmolnoggfaaGreatDoorG04
namespace Go.Proofs.YtchbhmolnoggfaaGreatDoor
open Go.RowKit Go.Deep Go.ChangeShapes Go.WideShapes Go.ChangeAt
attribute [local go_sem] Oper.semAt_some run_store_nf run_store_f
set_option maxHeartbeats 500000 in
set_option maxRecDepth 1000000 in
theorem def_bad {w : World} {base R mb n : Nat} {cv jv : Value} {qs : List Ins} {f : ByteArray → Option Nat} {js : List (Nat × Pc)} (hI : RX w base R mb cv jv qs n f js) (nm : ByteArray) (hs : nm.size ≤ 4096) (t : ByteArray) (ln col : Int) (hb : nmB nm = false) : Calls Tryz.prog 22 #[.pointer (some ⟨R, 0, none⟩), .string nm, .agg #[.string t, .int .i64 ln, .int .i64 col]] w fun e w' => e = pan (101, ln, col) ∧ Keeps (fun _ => False) w w' := by
  have m1 := CL.made w [.string t, .int .i64 ln, .int .i64 col] 73
  have k1 : Keeps (fun _ => False) w (w.alloc (.cells #[.string t, .int .i64 ln, .int .i64 col] 73)) := (Keeps.refl _ w).alloc _
  have hN := isName_any (w.alloc (.cells #[.string t, .int .i64 ln, .int .i64 col] 73)) nm hs
  rw [hb] at hN
  have hL := fun W => leave_any W t ln col 101
  go_enter Tryz.func22, Tryz.ntmps22
  go_wp2_with (first | (go_at_call 34; refine hN.mono ?_; clear hN; rintro e w2 ⟨rfl, k2⟩; have K2 := k1.trans k2; have hI2 := hI.keep K2; have m2 := m1.keep (by show 0 < 3; decide) k2 (fun e => e); have y0 := m2.c 0 _ rfl; have y1 := m2.c 1 _ rfl; have y2 := m2.c 2 _ rfl; have r1 := hI2.c.c 1 _ rfl; have hlk := hI2.m.look (k := nm) (by unfold Sz; omega)) | (go_at_call 23; refine (hL _).mono ?_; rintro e w3 ⟨rfl, k3⟩))
  exact ⟨rfl, rfl, K2.trans k3⟩
set_option maxHeartbeats 500000 in
set_option maxRecDepth 1000000 in
theorem def_twice {w : World} {base R mb n : Nat} {cv jv : Value} {qs : List Ins} {f : ByteArray → Option Nat} {js : List (Nat × Pc)} (hI : RX w base R mb cv jv qs n f js) (nm : ByteArray) (hs : nm.size ≤ 4096) (t : ByteArray) (ln col : Int) (hb : nmB nm = true) {v : Nat} (hf : f nm = some v) : Calls Tryz.prog 22 #[.pointer (some ⟨R, 0, none⟩), .string nm, .agg #[.string t, .int .i64 ln, .int .i64 col]] w fun e w' => e = pan (105, ln, col) ∧ Keeps (fun _ => False) w w' := by
  have m1 := CL.made w [.string t, .int .i64 ln, .int .i64 col] 73
  have k1 : Keeps (fun _ => False) w (w.alloc (.cells #[.string t, .int .i64 ln, .int .i64 col] 73)) := (Keeps.refl _ w).alloc _
  have hN := isName_any (w.alloc (.cells #[.string t, .int .i64 ln, .int .i64 col] 73)) nm hs
  rw [hb] at hN
  have hL := fun W => leave_any W t ln col 105
  go_enter Tryz.func22, Tryz.ntmps22
  go_wp2_with (first | ((go_at_call 34; refine hN.mono ?_; clear hN; rintro e w2 ⟨rfl, k2⟩; have K2 := k1.trans k2; have hI2 := hI.keep K2; have m2 := m1.keep (by show 0 < 3; decide) k2 (fun e => e); have y0 := m2.c 0 _ rfl; have y1 := m2.c 1 _ rfl; have y2 := m2.c 2 _ rfl; have r1 := hI2.c.c 1 _ rfl; have hlk := hI2.m.look (k := nm) (by unfold Sz; omega)); rw [hf] at hlk; simp only [Option.getD_some, Option.isSome_some] at hlk) | (go_at_call 23; refine (hL _).mono ?_; rintro e w3 ⟨rfl, k3⟩))
  exact ⟨rfl, rfl, K2.trans k3⟩
set_option maxHeartbeats 500000 in
set_option maxRecDepth 1000000 in
theorem def_ok {w : World} {base R mb n : Nat} {cv jv : Value} {qs : List Ins} {f : ByteArray → Option Nat} {js : List (Nat × Pc)} (hI : RX w base R mb cv jv qs n f js) (nm : ByteArray) (hs : nm.size ≤ 4096) (t : ByteArray) (ln col : Int) (hb : nmB nm = true) (hf : f nm = none) (hn : n < 4000000000) (hq : qs.length < 9000000) : Calls Tryz.prog 22 #[.pointer (some ⟨R, 0, none⟩), .string nm, .agg #[.string t, .int .i64 ln, .int .i64 col]] w fun e w' => e = .returned (.tuple #[]) ∧ RX w' base R mb cv jv qs (n + 1) (upd f nm (some qs.length)) js ∧ Keeps (fun k => k = mb) w w' := by
  have m1 := CL.made w [.string t, .int .i64 ln, .int .i64 col] 73
  have k1 : Keeps (fun _ => False) w (w.alloc (.cells #[.string t, .int .i64 ln, .int .i64 col] 73)) := (Keeps.refl _ w).alloc _
  have hN := isName_any (w.alloc (.cells #[.string t, .int .i64 ln, .int .i64 col] 73)) nm hs
  rw [hb] at hN
  obtain ⟨ac, capc, rfl⟩ := slice_of_owns hI.o
  go_enter Tryz.func22, Tryz.ntmps22
  go_wp2_with ((go_at_call 34; refine hN.mono ?_; clear hN; rintro e w2 ⟨rfl, k2⟩; have K2 := k1.trans k2; have hI2 := hI.keep K2; have m2 := m1.keep (by show 0 < 3; decide) k2 (fun e => e); have y0 := m2.c 0 _ rfl; have y1 := m2.c 1 _ rfl; have y2 := m2.c 2 _ rfl; have r1 := hI2.c.c 1 _ rfl; have hlk := hI2.m.look (k := nm) (by unfold Sz; omega)); rw [hf] at hlk; simp only [Option.getD_none, Option.isSome_none] at hlk)
  have r0 := hI2.c.c 0 _ rfl
  obtain ⟨w6, hput, hm6, k6⟩ := (hI2.m.keep (Keeps.refl (fun _ => False) w2).drew (fun e => e)).put (k := nm) (by unfold Sz; omega) (v := qs.length) (by omega) (by omega)
  rw [hf] at hm6
  have k6' : Keeps (fun k => k = mb) w2 w6 := ((Keeps.refl (fun k => k = mb) w2).drew).trans k6
  have nR : R ≠ mb := fun e => hI.b.2.2 e.symm
  refine wp_region_held_drew (S := fun w' => Keeps (fun k => k = mb) w2 w') (by kernel_rfl) (Keeps.refl _ w2).drew (fun hHeld => ?_)
  refine wpAnyH_take (i := 0) (v := ?_) rfl (by kernel_rfl) (by kernel_rfl) (by kernel_rfl) (fun _ _ _ h => h) (Or.inl ⟨by rfl, ?_⟩) (by assumption) ?_
  rotate_left
  · intro wx hSw;  go_simp <;> with_reducible rfl
  (try simp only [List.getElem_toArray]); (try simp only [List.getElem_cons_succ]); (try simp only [List.getElem_cons_zero]); (try simp only [Act.put]); (try simp only [List.setIfInBounds_toArray]); (repeat first | simp only [List.set_cons_succ] | simp only [List.set_cons_zero])
  refine wpAnyH_take (i := 1) (v := ?_) rfl (by kernel_rfl) (by kernel_rfl) (by kernel_rfl) (fun _ _ _ h => h) (Or.inl ⟨by rfl, ?_⟩) (by assumption) ?_
  rotate_left
  · intro wx hSw;  go_simp <;> with_reducible rfl
  (try simp only [List.getElem_toArray]); (try simp only [List.getElem_cons_succ]); (try simp only [List.getElem_cons_zero]); (try simp only [Act.put]); (try simp only [List.setIfInBounds_toArray]); (repeat first | simp only [List.set_cons_succ] | simp only [List.set_cons_zero])
  refine wpAnyH_take (i := 2) (v := ?_) rfl (by kernel_rfl) (by kernel_rfl) (by kernel_rfl) (fun _ _ _ h => h) (Or.inl ⟨by rfl, ?_⟩) (by assumption) ?_
  rotate_left
  · intro wx hSw;  go_simp <;> with_reducible rfl
  (try simp only [List.getElem_toArray]); (try simp only [List.getElem_cons_succ]); (try simp only [List.getElem_cons_zero]); (try simp only [Act.put]); (try simp only [List.setIfInBounds_toArray]); (repeat first | simp only [List.set_cons_succ] | simp only [List.set_cons_zero])
  refine wpAnyH_take (i := 3) (v := ?_) rfl (by kernel_rfl) (by kernel_rfl) (by kernel_rfl) (fun _ _ _ h => h) (Or.inl ⟨by rfl, ?_⟩) (by assumption) ?_
  rotate_left
  · intro wx hSw; have q1 := hSw.cell r1 nR;  go_simp <;> with_reducible rfl
  (try simp only [List.getElem_toArray]); (try simp only [List.getElem_cons_succ]); (try simp only [List.getElem_cons_zero]); (try simp only [Act.put]); (try simp only [List.setIfInBounds_toArray]); (repeat first | simp only [List.set_cons_succ] | simp only [List.set_cons_zero])
  refine wpAnyH_take (i := 4) (v := ?_) rfl (by kernel_rfl) (by kernel_rfl) (by kernel_rfl) (fun _ _ _ h => h) (Or.inl ⟨by rfl, ?_⟩) (by assumption) ?_
  rotate_left
  · intro wx hSw;  go_simp <;> with_reducible rfl
  (try simp only [List.getElem_toArray]); (try simp only [List.getElem_cons_succ]); (try simp only [List.getElem_cons_zero]); (try simp only [Act.put]); (try simp only [List.setIfInBounds_toArray]); (repeat first | simp only [List.set_cons_succ] | simp only [List.set_cons_zero])
  refine wpAnyH_take (i := 5) (v := ?_) rfl (by kernel_rfl) (by kernel_rfl) (by kernel_rfl) (fun _ _ _ h => h) (Or.inl ⟨by rfl, ?_⟩) (by assumption) ?_
  rotate_left
  · intro wx hSw;  go_simp <;> with_reducible rfl
  (try simp only [List.getElem_toArray]); (try simp only [List.getElem_cons_succ]); (try simp only [List.getElem_cons_zero]); (try simp only [Act.put]); (try simp only [List.setIfInBounds_toArray]); (repeat first | simp only [List.set_cons_succ] | simp only [List.set_cons_zero])
  refine wpAnyH_take (i := 6) (v := ?_) rfl (by kernel_rfl) (by kernel_rfl) (by kernel_rfl) (fun _ _ _ h => h) (Or.inl ⟨by rfl, ?_⟩) (by assumption) ?_
  rotate_left
  · intro wx hSw;  go_simp <;> with_reducible rfl
  (try simp only [List.getElem_toArray]); (try simp only [List.getElem_cons_succ]); (try simp only [List.getElem_cons_zero]); (try simp only [Act.put]); (try simp only [List.setIfInBounds_toArray]); (repeat first | simp only [List.set_cons_succ] | simp only [List.set_cons_zero])
  refine wpAnyH_take (i := 7) (v := ?_) rfl (by kernel_rfl) (by kernel_rfl) (by kernel_rfl) (fun _ _ _ h => h) (Or.inl ⟨by rfl, ?_⟩) (by assumption) ?_
  rotate_left
  · intro wx hSw;  go_simp <;> with_reducible rfl
  (try simp only [List.getElem_toArray]); (try simp only [List.getElem_cons_succ]); (try simp only [List.getElem_cons_zero]); (try simp only [Act.put]); (try simp only [List.setIfInBounds_toArray]); (repeat first | simp only [List.set_cons_succ] | simp only [List.set_cons_zero])
  refine wpAnyH_take (i := 8) (v := ?_) rfl (by kernel_rfl) (by kernel_rfl) (by kernel_rfl) (fun _ _ _ h => h) (Or.inl ⟨by rfl, ?_⟩) (by assumption) ?_
  rotate_left
  · intro wx hSw; have q0 := hSw.cell r0 nR;  go_simp <;> with_reducible rfl
  (try simp only [List.getElem_toArray]); (try simp only [List.getElem_cons_succ]); (try simp only [List.getElem_cons_zero]); (try simp only [Act.put]); (try simp only [List.setIfInBounds_toArray]); (repeat first | simp only [List.set_cons_succ] | simp only [List.set_cons_zero])
  refine wpAnyH_take (i := 9) (v := ?_) rfl (by kernel_rfl) (by kernel_rfl) (by kernel_rfl) (fun _ _ _ h => h) (Or.inl ⟨by rfl, ?_⟩) (by assumption) ?_
  rotate_left
  · intro wx hSw;  go_simp <;> with_reducible rfl
  (try simp only [List.getElem_toArray]); (try simp only [List.getElem_cons_succ]); (try simp only [List.getElem_cons_zero]); (try simp only [Act.put]); (try simp only [List.setIfInBounds_toArray]); (repeat first | simp only [List.set_cons_succ] | simp only [List.set_cons_zero])
  refine wpAnyH_one 10 (by kernel_rfl) rfl rfl ?_
  go_simp
  (try simp only [List.getElem_toArray]); (try simp only [List.getElem_cons_succ]); (try simp only [List.getElem_cons_zero]); (try simp only [Act.put]); (try simp only [List.setIfInBounds_toArray]); (repeat first | simp only [List.set_cons_succ] | simp only [List.set_cons_zero])
  refine wpAnyH_done (by kernel_rfl) ?_ _
  go_wp2_with fail
  go_end0
  refine ⟨rfl, ⟨hI2.c.keep (by show 0 < 3; decide) k6' nR, k6'.owns hI2.o (fun g hg e => hI.d1.2 (e ▸ hg)), k6'.owns hI2.j (fun g hg e => hI.d2.2 (e ▸ hg)), hm6, hI.b, hI.d1, hI.d2, hI.d3⟩, (K2.mono (fun _ _ e => e.elim)).trans k6'⟩
end Go.Proofs.YtchbhmolnoggfaaGreatDoor

namespace Go.Proofs.YtchbhmolnoggfaaGreatDoor
open Go.RowKit Go.Deep Go.ChangeShapes Go.WideShapes Go.ChangeAt
attribute [local go_sem] Oper.semAt_some run_store_nf run_store_f
structure Sx where
  qs : List Ins
  n : Nat
  f : ByteArray → Option Nat
  js : List (Nat × Pc)
def lab (t : ByteArray) : ByteArray := ⟨(Lib.trimSuffix t.data.toList [58]).toArray⟩
def lnR : List Pc → Sx → Except Flt Sx
  | [], s => .ok s
  | p :: r, s => if Lib.hasSuffix p.t.data.toList [58] = true then
      (if nmB (lab p.t) = true then match s.f (lab p.t) with
        | some _ => .error (105, p.ln, p.col)
        | none => lnR r { s with n := s.n + 1, f := upd s.f (lab p.t) (some s.qs.length) }
      else .error (101, p.ln, p.col))
    else match insR s.qs.length (p :: r) with
      | .error e => .error e
      | .ok (q, ps) => .ok { s with qs := s.qs ++ [q], js := s.js ++ ps.map (fun p => (s.qs.length, p)) }
def rdR : List ByteArray → Nat → Sx → Except Flt Sx
  | [], _, s => .ok s
  | l :: ls, i, s => match lnR (wds l ((i : Int) + 1)) s with
    | .error e => .error e
    | .ok s' => rdR ls (i + 1) s'
theorem lab_size (t : ByteArray) : (lab t).size ≤ t.size := by
  show (Lib.trimSuffix t.data.toList [58]).toArray.size ≤ t.data.size
  have : (Lib.trimSuffix t.data.toList [58]).length ≤ t.data.toList.length := by
    unfold Lib.trimSuffix
    split
    · simp
    · exact Nat.le_refl _
  simpa using this
theorem fls_len : ∀ (ss : List Int) (u : Ins) (pv : Pc) (ps acc : List Pc) (q : Ins) (l : List Pc), fls u ss pv ps acc = .ok (q, l) → l.length ≤ acc.length + ss.length
  | [], u, pv, [], acc, q, l, h => by
    have h : Except.ok (u, acc) = Except.ok (q, l) := h
    injection h with h
    injection h with h1 h2
    subst h2; simp
  | [], u, pv, p :: ps, acc, q, l, h => by cases h
  | s :: ss, u, pv, [], acc, q, l, h => by cases h
  | s :: ss, u, pv, p :: ps, acc, q, l, h => by
    have h : (if s = 6 then (if nmB p.t = true then fls u ss p ps (acc ++ [p]) else .error (103, p.ln, p.col)) else match fil u s p.t with | none => .error (103, p.ln, p.col) | some u' => fls u' ss p ps acc) = .ok (q, l) := h
    split at h
    · split at h
      · have := fls_len ss u p ps (acc ++ [p]) q l h
        simp at this ⊢
        omega
      · cases h
    · split at h
      · cases h
      · have := fls_len ss _ p ps acc q l h
        simp at this ⊢
        omega
theorem insr_len {m : Nat} {ws : List Pc} {q : Ins} {ps : List Pc} (h : insR m ws = .ok (q, ps)) : m ≠ 64 ∧ ps.length ≤ 4 := by
  cases ws with
  | nil => cases h
  | cons p r =>
    unfold insR at h
    simp only at h
    split at h
    · cases h
    · split at h
      · cases h
      · rename_i q' hn hm
        have := fls_len _ _ _ _ _ _ _ h
        have := (slo_le q'.code.toNat).1
        simp at *
        omega
theorem fls_mem : ∀ (ss : List Int) (u : Ins) (pv : Pc) (ps acc : List Pc) (q : Ins) (l : List Pc), fls u ss pv ps acc = .ok (q, l) → ∀ x ∈ l, x ∈ acc ∨ x ∈ ps
  | [], u, pv, [], acc, q, l, h => by
    have h : Except.ok (u, acc) = Except.ok (q, l) := h
    injection h with h
    injection h with h1 h2
    subst h2
    exact fun x hx => .inl hx
  | [], u, pv, p :: ps, acc, q, l, h => by cases h
  | s :: ss, u, pv, [], acc, q, l, h => by cases h
  | s :: ss, u, pv, p :: ps, acc, q, l, h => by
    have h : (if s = 6 then (if nmB p.t = true then fls u ss p ps (acc ++ [p]) else .error (103, p.ln, p.col)) else match fil u s p.t with | none => .error (103, p.ln, p.col) | some u' => fls u' ss p ps acc) = .ok (q, l) := h
    intro x hx
    split at h
    · split at h
      · rcases fls_mem ss u p ps (acc ++ [p]) q l h x hx with hm | hm
        · rcases List.mem_append.1 hm with hm | hm
          · exact .inl hm
          · exact .inr (by have : x = p := by simpa using hm
                           rw [this]; exact List.mem_cons_self ..)
        · exact .inr (List.mem_cons_of_mem _ hm)
      · cases h
    · split at h
      · cases h
      · rcases fls_mem ss _ p ps acc q l h x hx with hm | hm
        · exact .inl hm
        · exact .inr (List.mem_cons_of_mem _ hm)
theorem insr_mem {m : Nat} {ws : List Pc} {q : Ins} {ps : List Pc} (h : insR m ws = .ok (q, ps)) : ∀ x ∈ ps, x ∈ ws := by
  cases ws with
  | nil => cases h
  | cons p r =>
    unfold insR at h
    simp only at h
    split at h
    · cases h
    · split at h
      · cases h
      · intro x hx
        rcases fls_mem _ _ _ _ _ _ _ h x hx with hm | hm
        · cases hm
        · exact List.mem_cons_of_mem _ hm
theorem wdf_col (s : ByteArray) (num : Int) : ∀ n i, i ≤ s.size + 1 → ∀ p ∈ wdf s num n i, 0 ≤ p.col ∧ p.col ≤ (s.size : Int) + 1
  | 0, i, _ => fun p hp => by cases hp
  | n + 1, i, hi => by
    intro p hp
    unfold wdf at hp
    split at hp
    · rename_i hlt
      have hst := stp_ge s (s.size - i) i
      rcases List.mem_append.1 hp with hp | hp
      · split at hp
        · have hp : p = ⟨s.extract i (stp s (s.size - i) i), num, (i : Int) + 1⟩ := by simpa using hp
          rw [hp]
          simp only
          omega
        · cases hp
      · exact wdf_col s num n _ (by omega) p hp
    · cases hp
theorem pcl_drop {w : World} {b off : Nat} {l : List Pc} (h : PCL w (some ⟨b, off, none⟩) l) (j : Nat) : PCL w (some ⟨b, off + j * 3, none⟩) (l.drop j) := fun i p hi => by
  rw [List.getElem?_drop] at hi
  obtain ⟨b', off', e, hc⟩ := h (j + i) p hi
  injection e with e
  injection e with e1 e2 _
  subst e1 e2
  refine ⟨b, off + j * 3, rfl, fun c v hv => ?_⟩
  have := hc c v hv
  rw [show off + j * 3 + i * 3 + c = off + (j + i) * 3 + c by omega]
  exact this
def RdP (w0 : World) (R mb : Nat) (RES : Except Flt Sx) (e : Ending) (w' : World) : Prop := match RES with
  | .error fl => e = pan fl ∧ Keeps (fun _ => False) w0 w'
  | .ok s => e = .returned (.tuple #[]) ∧ (∃ cv jv, RX w' w0.heap.size R mb cv jv s.qs s.n s.f s.js) ∧ s.qs.length ≤ 64 ∧ s.js.length ≤ 4 * s.qs.length ∧ (∀ x ∈ s.js, x.1 < s.qs.length ∧ x.2.t.size ≤ 4096) ∧ Keeps (fun _ => False) w0 w'
set_option maxHeartbeats 1000000 in
set_option maxRecDepth 1000000 in
theorem read_any {w0 w : World} {R mb : Nat} {cv0 jv0 : Value} (s : ByteArray) (hs : s.size ≤ 4096) (hT : PT w0) (hNT : NT w0) (k0 : Keeps (fun _ => False) w0 w) (hI : RX w w0.heap.size R mb cv0 jv0 [] 0 (fun _ => none) []) (hsz : ∀ x ∈ lns s, x.size ≤ 4096) : Calls Tryz.prog 11 #[.pointer (some ⟨R, 0, none⟩), .string s] w (RdP w0 R mb (rdR (lns s) 0 ⟨[], 0, fun _ => none, []⟩)) := by
  obtain ⟨mx, hmx⟩ := (hT.keep k0).mx
  have hlen : (lns s).length = Lib.countB s ⟨#[10]⟩ + 1 := Lib.splitB_all ⟨#[10]⟩ (by decide) 0 _ s rfl
  have hSp : Calls Tryz.prog 18 #[.string s, .string ⟨#[10]⟩] w fun e w' => e = .returned (.slice (some ⟨w.heap.size, 0, none⟩) (lns s).length (lns s).length) ∧ w' = w.alloc (.cells ((lns s).map Value.string).toArray 9) := by
    rw [hlen]
    exact Tryz.strings_Split s ⟨#[10]⟩ mx w (by omega) hmx (by decide)
  have hcl := Lib.countB_le ⟨#[10]⟩ (by decide) s.size s (Nat.le_refl _)
  have hl5 : (lns s).length ≤ 5000 := by omega
  clear hlen hcl
  generalize lns s = L at *
  obtain ⟨RES, hRES⟩ : ∃ RES, rdR L 0 ⟨[], 0, fun _ => none, []⟩ = RES := ⟨_, rfl⟩
  rw [hRES]
  have hLM := LNs.made w L
  have k1 : Keeps (fun _ => False) w0 (w.alloc (.cells (L.map Value.string).toArray 9)) := k0.alloc _
  have hI1 := hI.keep ((Keeps.refl _ w).alloc (.cells (L.map Value.string).toArray 9))
  have hRX : w.heap.size ≠ R := fun e => by have := hI.lt; omega
  have hMX : w.heap.size ≠ mb := fun e => by have := hI.m.lt; omega
  clear hI
  generalize hX : w.heap.size = X at *
  clear hX
  go_enter Tryz.func11, Tryz.ntmps11
  go_wp2_with fail
  go_step3
  go_wp2_with fail
  go_step3
  go_wp2_with (go_at_call 18; refine hSp.mono ?_; clear hSp; rintro e w1 ⟨rfl, e1⟩; subst w1)
  generalize w.alloc (.cells (L.map Value.string).toArray 9) = wa at *
  go_loopg [14] L.length (fun g iv Wr => ∃ (k : Nat) (cv jv : Value) (st : Sx), k + g = L.length ∧ iv = .int .i64 (k : Int) ∧ Hid (rdR (L.drop k) k st = RES) ∧ RX Wr w0.heap.size R mb cv jv st.qs st.n st.f st.js ∧ Hid (st.n ≤ k * 5000 ∧ st.qs.length ≤ 64 ∧ st.js.length ≤ 4 * st.qs.length ∧ ∀ x ∈ st.js, x.1 < st.qs.length ∧ x.2.t.size ≤ 4096) ∧ LNs Wr X L ∧ Keeps (fun _ => False) w0 Wr)
  case atStart => exact ⟨0, cv0, jv0, ⟨[], 0, fun _ => none, []⟩, by omega, rfl, hRES, hI1, ⟨Nat.zero_le _, Nat.zero_le _, Nat.zero_le _, fun x hx => by cases hx⟩, hLM, k1⟩
  case round =>
    obtain ⟨k, cv, jv, ⟨qs, n, f, js⟩, hkg, rfl, HM, hR, HB, hLn, kr⟩ := hrel
    simp only at hR HB
    clear hI1 hLM k1
    cases gk with
    | zero =>
      have hltI : decide ((k : Int) < (L.length : Int)) = false := by simp; omega
      have hl : ¬ (k : Int) < (L.length : Int) := by omega
      have hacc : RES = .ok ⟨qs, n, f, js⟩ := by
        have := HM.out
        rw [List.drop_eq_nil_of_le (by omega)] at this
        exact this.symm
      subst hacc
      go_wp2_with fail
      go_end0
      exact ⟨rfl, ⟨cv, jv, hR⟩, HB.out.2.1, HB.out.2.2.1, HB.out.2.2.2, kr⟩
    | succ g =>
      have hlt : k < L.length := by omega
      have hltI : decide ((k : Int) < (L.length : Int)) = true := by simp; omega
      have hltJ : (k : Int) < (L.length : Int) := by omega
      have hk0 : (0 : Int) ≤ (k : Int) := by omega
      obtain ⟨z, hz⟩ : ∃ z, L[k]? = some z := ⟨_, List.getElem?_eq_getElem hlt⟩
      have hzc := hLn.c k z hz
      have hzs := hsz z (List.mem_of_getElem? hz)
      have hdr : L.drop k = z :: L.drop (k + 1) := by
        obtain ⟨hk, e⟩ := List.getElem?_eq_some_iff.1 hz
        rw [List.drop_eq_getElem_cons hk, e]
      have hC := cut_any (w := wr) z ((k : Int) + 1) hzs (hT.keep kr)
      rw [hdr] at HM
      have HM2 : Hid ((match lnR (wds z ((k : Int) + 1)) ⟨qs, n, f, js⟩ with | .error e => .error e | .ok s' => rdR (L.drop (k + 1)) (k + 1) s') = RES) := HM
      clear HM hdr
      have hps' : ∀ p ∈ wds z ((k : Int) + 1), p.t.size ≤ 4096 ∧ 0 ≤ p.col ∧ p.col ≤ 100000 := fun p hp => by
        have h1 := wdf_sz (bare z) ((k : Int) + 1) ((bare z).size + 1) 0 p hp
        have h2 := wdf_col (bare z) ((k : Int) + 1) ((bare z).size + 1) 0 (by omega) p hp
        have h3 := bare_size z
        omega
      have hwl : (wds z ((k : Int) + 1)).length ≤ 5000 := by have := wdf_len (bare z) ((k : Int) + 1) ((bare z).size + 1) 0; have := bare_size z; unfold wds; omega
      generalize wds z ((k : Int) + 1) = ws at *
      obtain ⟨LR, hLR⟩ : ∃ LR, lnR ws ⟨qs, n, f, js⟩ = LR := ⟨_, rfl⟩
      rw [hLR] at HM2
      have HLR : Hid (_ = _) := hLR
      clear hLR
      obtain ⟨m, hm⟩ : ∃ m, ws.length = m := ⟨_, rfl⟩
      rw [hm] at hwl hC
      go_wp2_with (go_at_call 19; refine hC.mono ?_; clear hC; rintro e w3 ⟨v, rfl, hown, k3⟩; obtain ⟨wa', wc, rfl, hpc, hwc⟩ := pcl_of_owns2 hown hm)
      have hR3 := hR.keep k3
      have hLn3 := hLn.keep k3 (fun e => e)
      have K3 := kr.trans k3
      have HWB : Hid (∀ b off, wa' = some ⟨b, off, none⟩ → b ≠ R ∧ jv.ownBlock ≠ some b ∧ b ≠ mb) := fun b off e => by
        subst e
        have hb := owns_base hown b rfl
        have := hR.lt
        have := hR.m.lt
        exact ⟨by omega, fun e => by have := owns_lt' hR.j b e; omega, by omega⟩
      have HXC : Hid (cv.ownBlock ≠ some X ∧ jv.ownBlock ≠ some X) := by
        obtain ⟨cur', x', h3⟩ := hLn.t
        refine ⟨fun e => ?_, fun e => ?_⟩
        · obtain ⟨_, cur, x, h2⟩ := owns_ty hR.o X e
          rw [h3] at h2
          injection h2 with h2
          injection h2 with _ h2 _
          exact absurd h2 (by decide)
        · obtain ⟨_, cur, x, h2⟩ := owns_ty hR.j X e
          rw [h3] at h2
          injection h2 with h2
          injection h2 with _ h2 _
          exact absurd h2 (by decide)
      have hcb : ∀ i, cv.ownBlock = some i → w0.heap.size ≤ i := fun i e => owns_base hR.o i e
      have hjb : ∀ i, jv.ownBlock = some i → w0.heap.size ≤ i := fun i e => owns_base hR.j i e
      have hRb := hR.b.1
      have hMb := hR.b.2.1
      clear hR hLn hown hzc
      go_loopw [25] (fun iv Wr => ∃ (j n' : Nat) (f' : ByteArray → Option Nat), iv = .int .i64 (j : Int) ∧ j ≤ m ∧ Hid (lnR (ws.drop j) ⟨qs, n', f', js⟩ = LR) ∧ RX Wr w0.heap.size R mb cv jv qs n' f' js ∧ Hid (n' ≤ n + j) ∧ Keeps (fun k => k = mb) w3 Wr) (fun iv _ => m - (intOf iv).toNat)
      case atStart => exact ⟨0, n, f, rfl, Nat.zero_le _, HLR, hR3, Nat.le_refl _, Keeps.refl _ _⟩
      case round =>
        clear HLR hR3
        obtain ⟨j, n', f', rfl, hj, HLR, hR3, HN, kj⟩ := hrel
        have hLn4 := hLn3.keep kj hMX
        have Kj : Keeps (fun _ => False) w0 wr := K3.trans' kj (fun _ _ e => e) (fun i hi e => by have e : i = mb := e; omega)
        have hpcj : PCL wr wa' ws := fun i p hi => by
          obtain ⟨b, off, e, hc⟩ := hpc i p hi
          exact ⟨b, off, e, fun c v hv => kj.cell (hc c v hv) (HWB.out b off e).2.2⟩
        by_cases hjm : j < m
        · have hjI : decide ((j : Int) < (m : Int)) = true := by simp; omega
          have hjJ : (j : Int) < (m : Int) := by omega
          have hj0 : (0 : Int) ≤ (j : Int) := by omega
          have hwj : IntKind.i64.wrap ((j : Int) + 1) = (j : Int) + 1 := by rw [IntKind.wrap_i64]; omega
          obtain ⟨p, hp⟩ : ∃ p, ws[j]? = some p := ⟨_, List.getElem?_eq_getElem (by omega)⟩
          have e3 : ws.drop j = p :: ws.drop (j + 1) := by
            obtain ⟨hk, e⟩ := List.getElem?_eq_some_iff.1 hp
            rw [List.drop_eq_getElem_cons hk, e]
          have hpsz := hps' p (List.mem_of_getElem? hp)
          obtain ⟨b, off, rfl, hp0⟩ := hpcj j p hp
          have hpd := pcl_drop hpcj j
          rw [e3] at HLR hpd
          have hrl : m - j = (ws.drop (j + 1)).length + 1 := by rw [List.length_drop]; omega
          have hrsz : ∀ x ∈ (p :: ws.drop (j + 1)), x.t.size ≤ 4096 ∧ 0 ≤ x.col ∧ x.col ≤ 100000 := fun x hx => hps' x (by rw [← e3] at hx; exact List.mem_of_mem_drop hx)
          obtain ⟨r, hre⟩ : ∃ r, ws.drop (j + 1) = r := ⟨_, rfl⟩
          rw [hre] at HLR hpd hrl hrsz
          have HRE : Hid (_ = _) := hre
          clear hre
          obtain ⟨pt, pl, pcol⟩ := p
          have hR0 : (loadVar 73 ⟨b, off + j * 3, none⟩).run Tryz.prog wr = .ok (.agg #[.string pt, .int .i64 pl, .int .i64 pcol]) wr := run_pcAt (W := wr) (b := b) (o := off + j * 3) (p := ⟨pt, pl, pcol⟩) hp0
          obtain ⟨W4, hW4⟩ : ∃ W4, W4 = wr.alloc (.cells #[.string pt, .int .i64 pl, .int .i64 pcol] 73) := ⟨_, rfl⟩
          have k4 : Keeps (fun _ => False) wr W4 := by rw [hW4]; exact (Keeps.refl _ wr).alloc _
          have c4 : CL W4 wr.heap.size [.string pt, .int .i64 pl, .int .i64 pcol] := by rw [hW4]; exact CL.made wr _ _
          have x0 := c4.c 0 _ rfl
          have x1 := c4.c 1 _ rfl
          have x2 := c4.c 2 _ rfl
          have K4 := Kj.trans k4
          have hCS : ∀ W, Calls Tryz.prog 20 #[.string pt, .string ⟨#[58]⟩] W fun e w' => e = .returned (.tuple #[.string (lab pt), .bool (Lib.hasSuffix pt.data.toList [58])]) ∧ w' = W := fun W => Tryz.strings_CutSuffix pt ⟨#[58]⟩ W (by have := hpsz.1; simp only at this; omega)
          have hLn5 := hLn4.keep k4 (fun e => e)
          have hR4 := hR3.keep k4
          have hWB := HWB.out b off rfl
          have HW4 : Hid (_ = _) := hW4
          have hls := lab_size pt
          simp only at hpsz
          clear hW4 hp0 hpcj hps' hpc e3
          by_cases hsf : Lib.hasSuffix pt.data.toList [58] = true
          · have HL2 : (if Lib.hasSuffix pt.data.toList [58] = true then (if nmB (lab pt) = true then match f' (lab pt) with | some _ => .error (105, pl, pcol) | none => lnR r ⟨qs, n' + 1, upd f' (lab pt) (some qs.length), js⟩ else .error (101, pl, pcol)) else match insR qs.length (⟨pt, pl, pcol⟩ :: r) with | .error e => .error e | .ok (q, ps) => .ok ⟨qs ++ [q], n', f', js ++ ps.map (fun p => (qs.length, p))⟩ : Except Flt Sx) = LR := HLR.out
            rw [if_pos hsf] at HL2
            rw [hsf] at hCS
            clear HLR hsf
            generalize lab pt = nm at *
            by_cases hnm : nmB nm = true
            · rw [if_pos hnm] at HL2
              cases hfn : f' nm with
              | some v =>
                rw [hfn] at HL2
                have HE : Hid (RES = .error (105, pl, pcol)) := by
                  have h := HM2.out
                  rw [← HL2] at h
                  exact h.symm
                have hD := def_twice hR4 nm (by omega) pt pl pcol hnm hfn
                clear HL2 hfn hnm
                go_wp2_with (first | (refine wpList_load_run rfl 73 _ rfl ⟨b, off + j * 3, none⟩ rfl _ hR0 ?_; clear hR0) | (go_at_call 20; rw [← HW4.out]; refine (hCS _).mono ?_; clear hCS; rintro e w5 ⟨rfl, e5⟩; subst w5))
                refine hD.mono ?_
                rintro e w6 ⟨rfl, k6⟩
                exact ⟨rfl, by rw [HE.out]; exact ⟨rfl, K4.trans k6⟩⟩
              | none =>
                rw [hfn] at HL2
                have HL3 : Hid (lnR r ⟨qs, n' + 1, upd f' nm (some qs.length), js⟩ = LR) := HL2
                have hD := def_ok hR4 nm (by omega) pt pl pcol hnm hfn (by have := HN.out; have := HB.out.1; omega) (by have := HB.out.2.1; omega)
                clear HL2 hfn hnm
                go_wp2_with (first | (refine wpList_load_run rfl 73 _ rfl ⟨b, off + j * 3, none⟩ rfl _ hR0 ?_; clear hR0) | (go_at_call 20; rw [← HW4.out]; refine (hCS _).mono ?_; clear hCS; rintro e w5 ⟨rfl, e5⟩; subst w5))
                refine hD.mono ?_
                rintro e w6 ⟨rfl, hR6, k6⟩
                have K6 : Keeps (fun k => k = mb) w3 w6 := (kj.trans (k4.mono (fun _ _ e => e.elim))).trans k6
                clear hD
                go_wp2_with fail
                go_roundw
                case rel => exact ⟨j + 1, n' + 1, upd f' nm (some qs.length), by go_num, by omega, (by rw [HRE.out]; exact HL3), hR6, by have := HN.out; show n' + 1 ≤ n + (j + 1); omega, K6⟩
                case measure => simp [intOf]; omega
            · rw [if_neg hnm] at HL2
              have HE : Hid (RES = .error (101, pl, pcol)) := by
                have h := HM2.out
                rw [← HL2] at h
                exact h.symm
              have hD := def_bad hR4 nm (by omega) pt pl pcol (by simpa using hnm)
              clear HL2 hnm
              go_wp2_with (first | (refine wpList_load_run rfl 73 _ rfl ⟨b, off + j * 3, none⟩ rfl _ hR0 ?_; clear hR0) | (go_at_call 20; rw [← HW4.out]; refine (hCS _).mono ?_; clear hCS; rintro e w5 ⟨rfl, e5⟩; subst w5))
              refine hD.mono ?_
              rintro e w6 ⟨rfl, k6⟩
              exact ⟨rfl, by rw [HE.out]; exact ⟨rfl, K4.trans k6⟩⟩
          · have HL2 : (if Lib.hasSuffix pt.data.toList [58] = true then (if nmB (lab pt) = true then match f' (lab pt) with | some _ => .error (105, pl, pcol) | none => lnR r ⟨qs, n' + 1, upd f' (lab pt) (some qs.length), js⟩ else .error (101, pl, pcol)) else match insR qs.length (⟨pt, pl, pcol⟩ :: r) with | .error e => .error e | .ok (q, ps) => .ok ⟨qs ++ [q], n', f', js ++ ps.map (fun p => (qs.length, p))⟩ : Except Flt Sx) = LR := HLR.out
            rw [if_neg hsf] at HL2
            have hsf' : Lib.hasSuffix pt.data.toList [58] = false := by simpa using hsf
            rw [hsf'] at hCS
            clear HLR hsf hsf'
            generalize lab pt = nm at *
            have hIns := ins_any (w := W4) (cap := wc - j) hT hNT K4 hR4 (hpd.keep k4) hrsz hWB.1 hWB.2.1 HB.out.2.1 (by have h1 := HB.out.2.1; have h2 := HB.out.2.2.1; omega)
            obtain ⟨IR, hIR⟩ : ∃ IR, insR qs.length (⟨pt, pl, pcol⟩ :: r) = IR := ⟨_, rfl⟩
            rw [hIR] at hIns HL2
            have HIR : Hid (_ = _) := hIR
            have HL3 : Hid (_ = LR) := HL2
            have s1 : (j : Int) ≤ (m : Int) := by omega
            have s2 : j ≤ m := by omega
            have s3 : m ≤ wc := hwc.1
            have s4 : (m : Int) ≤ (wc : Int) := by omega
            have HRZ : Hid (∀ x ∈ ((⟨pt, pl, pcol⟩ : Pc) :: r), x.t.size ≤ 4096 ∧ 0 ≤ x.col ∧ x.col ≤ 100000) := hrsz
            clear HL2 hIR hpd hrsz
            go_wp2_with (first | (refine wpList_load_run rfl 73 _ rfl ⟨b, off + j * 3, none⟩ rfl _ hR0 ?_; clear hR0) | (go_at_call 20; rw [← HW4.out]; refine (hCS _).mono ?_; clear hCS; rintro e w5 ⟨rfl, e5⟩; subst w5))
            refine hIns.mono ?_
            clear hIns
            cases IR with
            | error fl =>
              rintro e w5 ⟨rfl, k5⟩
              have HE : RES = .error fl := by
                have h := HM2.out
                rw [← HL3.out] at h
                exact h.symm
              exact ⟨rfl, by rw [HE]; exact ⟨rfl, K4.trans' k5 (fun _ _ e => e) (fun i hi e => by have e : w0.heap.size ≤ i := e; omega)⟩⟩
            | ok qp =>
              obtain ⟨q, ps⟩ := qp
              rintro e w5 ⟨rfl, cv', jv', hR5, k5⟩
              have hil := insr_len HIR.out
              have HRD : Hid (rdR (L.drop (k + 1)) (k + 1) ⟨qs ++ [q], n', f', js ++ ps.map (fun p => (qs.length, p))⟩ = RES) := by
                have h := HM2.out
                rw [← HL3.out] at h
                exact h
              have hLn6 := hLn5.keep k5 (fun e => by
                rcases e with e | e | e
                · exact hRX e
                · exact HXC.out.1 e
                · exact HXC.out.2 e)
              have K5 : Keeps (fun _ => False) w0 w5 := K4.trans' k5 (fun _ _ e => e) (fun i hi e => by
                rcases e with e | e | e
                · omega
                · have := hcb i e; omega
                · have := hjb i e; omega)
              have HB2 : Hid (n' ≤ (k + 1) * 5000 ∧ (qs ++ [q]).length ≤ 64 ∧ (js ++ ps.map (fun p => (qs.length, p))).length ≤ 4 * (qs ++ [q]).length ∧ ∀ x ∈ (js ++ ps.map (fun p => (qs.length, p))), x.1 < (qs ++ [q]).length ∧ x.2.t.size ≤ 4096) := by
                have h1 := HB.out
                have h2 := HN.out
                have h3 := h1.2.2.1
                have h4 := h1.2.1
                refine ⟨by have := h1.1; omega, ?_, ?_, fun x hx => ?_⟩
                · rw [List.length_append]; simp only [List.length_singleton]; omega
                · rw [List.length_append, List.length_append, List.length_map]; simp only [List.length_singleton]; omega
                · rw [List.length_append]
                  simp only [List.length_singleton]
                  rcases List.mem_append.1 hx with hx | hx
                  · have := h1.2.2.2 x hx; omega
                  · obtain ⟨y, hy, rfl⟩ := List.mem_map.1 hx
                    have := (HRZ.out y (insr_mem HIR.out y hy)).1
                    simp only
                    omega
              clear k5 hLn4 HL3 HIR
              go_wp2_with fail
              go_roundg g
              case measure => omega
              case rel => exact ⟨k + 1, cv', jv', ⟨qs ++ [q], n', f', js ++ ps.map (fun p => (qs.length, p))⟩, by omega, by go_num, HRD, hR5, HB2, hLn6, K5⟩
        · have hjI : decide ((j : Int) < (m : Int)) = false := by simp; omega
          have HRD : Hid (rdR (L.drop (k + 1)) (k + 1) ⟨qs, n', f', js⟩ = RES) := by
            have h1 := HLR.out
            rw [List.drop_eq_nil_of_le (by omega)] at h1
            have h1 : Except.ok (⟨qs, n', f', js⟩ : Sx) = LR := h1
            have h := HM2.out
            rw [← h1] at h
            exact h
          have HB2 : Hid (n' ≤ (k + 1) * 5000 ∧ qs.length ≤ 64 ∧ js.length ≤ 4 * qs.length ∧ ∀ x ∈ js, x.1 < qs.length ∧ x.2.t.size ≤ 4096) := by
            have h1 := HB.out
            have h2 := HN.out
            exact ⟨by have := h1.1; omega, h1.2⟩
          go_wp2_with fail
          go_roundg g
          case measure => omega
          case rel => exact ⟨k + 1, cv, jv, ⟨qs, n', f', js⟩, by omega, by go_num, HRD, hR3, HB2, hLn4, Kj⟩
end Go.Proofs.YtchbhmolnoggfaaGreatDoor

