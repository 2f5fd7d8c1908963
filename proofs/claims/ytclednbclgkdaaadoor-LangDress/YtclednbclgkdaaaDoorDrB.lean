import Derived.Test.YtclednbclgkdaaaDoorDrA
import Derived.Test.YtclednbclgkdaaaDoorPhJ
namespace Go.Proofs.YtclednbclgkdaaaDoor
open Go.RowKit Go.Deep Go.ChangeShapes Go.WideShapes Go.ChangeAt
attribute [local go_sem] Oper.semAt_some run_store_nf run_store_f
def okP (p : Pc) : Prop := p.t.size ≤ 4096 ∧ 0 ≤ p.col ∧ p.col ≤ 100000
def okE (e : Flt) : Prop := e.1 ≠ 0 ∧ 0 ≤ e.2.2 ∧ e.2.2 ≤ 200000
theorem okE_of {p : Pc} (h : okP p) (c : Int) (hc : c ≠ 0) : okE (c, p.ln, p.col) := ⟨hc, h.2.1, by have := h.2.2; show p.col ≤ _; omega⟩
def okI : Except Flt (Ins × List Pc) → Prop
  | .error e => okE e
  | .ok (_, l) => ∀ p ∈ l, okP p
theorem fls_okE : ∀ (ss : List Int) (u : Ins) (pv : Pc) (ps acc : List Pc), okP pv → (∀ p ∈ ps, okP p) → (∀ p ∈ acc, okP p) → okI (fls u ss pv ps acc)
  | [], u, pv, [], acc, _, _, h => h
  | [], u, pv, p :: ps, acc, _, h, _ => okE_of (h p (by simp)) 104 (by decide)
  | s :: ss, u, pv, [], acc, h, _, _ => by
    obtain ⟨h1, h2, h3⟩ := h
    refine ⟨show (102 : Int) ≠ 0 by decide, ?_, ?_⟩
    · show 0 ≤ pv.col + (pv.t.size : Int); omega
    · show pv.col + (pv.t.size : Int) ≤ _; omega
  | s :: ss, u, pv, p :: ps, acc, _, h, ha => by
    show okI (if s = 6 then (if nmB p.t = true then fls u ss p ps (acc ++ [p]) else .error (103, p.ln, p.col)) else match fil u s p.t with
      | none => .error (103, p.ln, p.col)
      | some u' => fls u' ss p ps acc)
    have hp := h p (by simp)
    have hr : ∀ q ∈ ps, okP q := fun q hq => h q (by simp [hq])
    by_cases e : s = 6
    · rw [if_pos e]
      by_cases g : nmB p.t = true
      · rw [if_pos g]
        refine fls_okE ss u p ps _ hp hr (fun q hq => ?_)
        rcases List.mem_append.1 hq with hq | hq
        · exact ha q hq
        · have : q = p := by simpa using hq
          rw [this]; exact hp
      · rw [if_neg g]; exact okE_of hp 103 (by decide)
    · rw [if_neg e]
      cases fil u s p.t with
      | none => exact okE_of hp 103 (by decide)
      | some u' => exact fls_okE ss u' p ps acc hp hr ha
theorem insR_okE (m : Nat) (p : Pc) (r : List Pc) (h : ∀ q ∈ p :: r, okP q) : okI (insR m (p :: r)) := by
  have hp := h p (by simp)
  show okI (match nmd p.t with
    | none => .error (101, p.ln, p.col)
    | some q => if m = 64 then .error (106, p.ln, p.col) else fls q (slo q.code.toNat) p r [])
  cases nmd p.t with
  | none => exact okE_of hp 101 (by decide)
  | some q =>
    show okI (if m = 64 then _ else _)
    by_cases e : m = 64
    · rw [if_pos e]; exact okE_of hp 106 (by decide)
    · rw [if_neg e]; exact fls_okE _ _ _ _ _ hp (fun q hq => h q (by simp [hq])) (fun q hq => by cases hq)
def okX : Except Flt Sx → Prop
  | .error e => okE e
  | .ok s => ∀ x ∈ s.js, okP x.2
theorem lnR_okE : ∀ (ps : List Pc) (s : Sx), (∀ p ∈ ps, okP p) → (∀ x ∈ s.js, okP x.2) → okX (lnR ps s)
  | [], s, _, h => h
  | p :: r, s, h, hj => by
    have hp := h p (by simp)
    show okX (if Lib.hasSuffix p.t.data.toList [58] = true then
      (if nmB (lab p.t) = true then match s.f (lab p.t) with
        | some _ => .error (105, p.ln, p.col)
        | none => lnR r { s with n := s.n + 1, f := upd s.f (lab p.t) (some s.qs.length) }
      else .error (101, p.ln, p.col))
    else match insR s.qs.length (p :: r) with
      | .error e => .error e
      | .ok (q, ps) => .ok { s with qs := s.qs ++ [q], js := s.js ++ ps.map (fun p => (s.qs.length, p)) })
    by_cases e : Lib.hasSuffix p.t.data.toList [58] = true
    · rw [if_pos e]
      by_cases g : nmB (lab p.t) = true
      · rw [if_pos g]
        cases s.f (lab p.t) with
        | some v => exact okE_of hp 105 (by decide)
        | none => exact lnR_okE r _ (fun q hq => h q (by simp [hq])) hj
      · rw [if_neg g]; exact okE_of hp 101 (by decide)
    · rw [if_neg e]
      have hi := insR_okE s.qs.length p r h
      cases hh : insR s.qs.length (p :: r) with
      | error e => rw [hh] at hi; exact hi
      | ok x =>
        obtain ⟨q, ps⟩ := x
        rw [hh] at hi
        have hi : ∀ p ∈ ps, okP p := hi
        show ∀ x ∈ s.js ++ ps.map (fun p => (s.qs.length, p)), okP x.2
        intro x hx
        rcases List.mem_append.1 hx with hx | hx
        · exact hj x hx
        · obtain ⟨y, hy, rfl⟩ := List.mem_map.1 hx
          exact hi y hy
theorem rdR_okE : ∀ (ls : List ByteArray) (i : Nat) (s : Sx), (∀ z ∈ ls, z.size ≤ 4096) → (∀ x ∈ s.js, okP x.2) → okX (rdR ls i s)
  | [], i, s, _, h => h
  | z :: ls, i, s, h, hj => by
    show okX (match lnR (wds z ((i : Int) + 1)) s with | .error e => .error e | .ok s' => rdR ls (i + 1) s')
    have hz := h z (by simp)
    have hl := lnR_okE (wds z ((i : Int) + 1)) s (fun p hp => by
      have h1 := wdf_sz (bare z) ((i : Int) + 1) ((bare z).size + 1) 0 p hp
      have h2 := wdf_col (bare z) ((i : Int) + 1) ((bare z).size + 1) 0 (by omega) p hp
      have h3 := bare_size z
      exact ⟨by omega, by omega, by omega⟩) hj
    cases hh : lnR (wds z ((i : Int) + 1)) s with
    | error e => rw [hh] at hl; exact hl
    | ok s' => rw [hh] at hl; exact rdR_okE ls (i + 1) s' (fun y hy => h y (by simp [hy])) hl
theorem joR_okE (f : ByteArray → Option Nat) : ∀ (js : List (Nat × Pc)) (qs : List Ins), (∀ x ∈ js, okP x.2) → ∀ e, joR f js qs = .error e → okE e
  | [], qs, _, e, h => by cases h
  | x :: r, qs, hj, e, h => by
    have h : (match f x.2.t with | none => .error (107, x.2.ln, x.2.col) | some v => joR f r (qs.set x.1 { qs.getD x.1 ins0 with to := (v : Int) })) = Except.error e := h
    cases hh : f x.2.t with
    | none =>
      rw [hh] at h
      injection h with h
      rw [← h]
      exact okE_of (hj x (by simp)) 107 (by decide)
    | some v =>
      rw [hh] at h
      exact joR_okE f r _ (fun y hy => hj y (by simp [hy])) e h
theorem prs_okE {s : ByteArray} (hs : s.size ≤ 4096) {e : Flt} (h : prsR s = .error e) : okE e := by
  unfold prsR at h
  rw [if_neg (by omega)] at h
  have hr := rdR_okE (lns s) 0 ⟨[], 0, fun _ => none, []⟩ (fun z hz => by have := splitB_size _ s z hz; omega) (fun x hx => by cases hx)
  cases hh : rdR (lns s) 0 ⟨[], 0, fun _ => none, []⟩ with
  | error x =>
    rw [hh] at h hr
    injection h with h
    rw [← h]; exact hr
  | ok st =>
    rw [hh] at h hr
    exact joR_okE st.f st.js st.qs hr e h
theorem app_list (a b : ByteArray) : (a ++ b).data.toList = a.data.toList ++ b.data.toList := by simp
set_option maxHeartbeats 500000 in
set_option maxRecDepth 1000000 in
theorem dressed_any {w : World} (s : ByteArray) (hs : s.size ≤ 281474976710656) : Calls Tryd.prog 11 #[.string s] w fun e w' => ∃ d : ByteArray, e = .returned (.string d) ∧ d.data.toList = 9 :: (dpre s.data.toList ++ e1) ∧ d.size ≤ 4000000000000000 ∧ w' = w := by
  obtain ⟨N, hN⟩ : ∃ N, s.size = N := ⟨_, rfl⟩
  obtain ⟨bs, hbs⟩ : ∃ bs, s.data.toList = bs := ⟨_, rfl⟩
  have hbN : bs.length = N := by rw [← hbs, ← hN]; simp
  rw [hbs]
  go_enter Tryd.func11, Tryd.ntmps11
  go_wp2_with fail
  go_loopw [3, 4] (fun sv iv Wr => ∃ (i : Nat) (x : ByteArray), sv = .string x ∧ iv = .int .i64 (i : Int) ∧ i ≤ N ∧ x.size ≤ 1 + 14 * i ∧ Hid (x.data.toList = 9 :: dpre (bs.take i)) ∧ Wr = w) (fun _ iv _ => N - (intOf iv).toNat)
  case atStart => exact ⟨0, ⟨#[9]⟩, rfl, rfl, Nat.zero_le _, by decide, rfl, rfl⟩
  case round =>
    obtain ⟨i, x, rfl, rfl, hi, hx, HX, ew⟩ := hrel
    subst wr
    have hx2 : x.size ≤ 3999999999999990 := by omega
    by_cases hlt : i < N
    · have hltI : decide ((i : Int) < (N : Int)) = true := decide_eq_true (by omega)
      have hltJ : (i : Int) < (N : Int) := by omega
      have hi0 : (0 : Int) ≤ (i : Int) := by omega
      have his : i < s.size := by omega
      have hwi : IntKind.i64.wrap ((i : Int) + 1) = (i : Int) + 1 := by rw [IntKind.wrap_i64]; omega
      have hbi : bs[i]? = some s[i] := by rw [← hbs, List.getElem?_eq_getElem (by simpa using his)]; rfl
      have htk : bs.take (i + 1) = bs.take i ++ [s[i]] := by rw [List.take_add_one, hbi]; rfl
      by_cases hc : s[i] = 10
      · have b0 : (((s[i].toNat : Nat) : Int) == 10) = true := by rw [hc]; rfl
        obtain ⟨y, hy⟩ : ∃ y : ByteArray, y = x ++ ⟨#[32, 9, 32, 35, 32, 120, 58, 32, 113, 117, 105, 116, 10, 9]⟩ := ⟨_, rfl⟩
        have hyl : y.size = x.size + 14 := by rw [hy, ByteArray.size_append]; rfl
        have HY : Hid (y.data.toList = 9 :: dpre (bs.take (i + 1))) := by
          show y.data.toList = _
          rw [hy, app_list, HX.out, htk, dpre_app, dpre_one, if_pos hc]
          rfl
        have h1 : ¬ (9223372036854775807 < x.size + 14) := by omega
        have h2 : ¬ (x.size + 14 > 9223372036854775807) := by omega
        have h3 : ¬ (x.size + (⟨#[32, 9, 32, 35, 32, 120, 58, 32, 113, 117, 105, 116, 10, 9]⟩ : ByteArray).size > 9223372036854775807) := h2
        clear hbi htk HX hc
        go_wp2_with fail
        rw [← hy]
        go_roundw
        case rel => exact ⟨i + 1, y, rfl, by go_num, by omega, by omega, HY, trivial⟩
        case measure => simp [intOf]; omega
      · have b0 : (((s[i].toNat : Nat) : Int) == 10) = false := by
          rw [beq_eq_false_iff_ne]
          intro e
          apply hc
          have : s[i].toNat = 10 := by omega
          exact UInt8.toNat_inj.1 (by rw [this]; rfl)
        obtain ⟨y, hy⟩ : ∃ y : ByteArray, y = x ++ s.extract i (i + 1) := ⟨_, rfl⟩
        have hel : (s.extract i (i + 1)).size = 1 := by rw [ByteArray.size_extract]; omega
        have hyl : y.size = x.size + 1 := by rw [hy, ByteArray.size_append, hel]
        have HY : Hid (y.data.toList = 9 :: dpre (bs.take (i + 1))) := by
          show y.data.toList = _
          have e : (s.extract i (i + 1)).data.toList = [s[i]] := by
            rw [ByteArray.data_extract, Array.toList_extract, List.extract_eq_take_drop, hbs, show i + 1 - i = 1 by omega]
            obtain ⟨h, e⟩ := List.getElem?_eq_some_iff.1 hbi
            rw [List.drop_eq_getElem_cons h, e]
            rfl
          rw [hy, app_list, HX.out, htk, dpre_app, dpre_one, if_neg hc, e]
          rfl
        have h1 : ¬ (9223372036854775807 < x.size + (s.extract i (i + 1)).size) := by omega
        have h2 : ¬ (x.size + (s.extract i (i + 1)).size > 9223372036854775807) := by omega
        have hj1 : (i : Int) + 1 ≤ (N : Int) := by omega
        have hj2 : (i : Int) ≤ (i : Int) + 1 := by omega
        have hj3 : (0 : Int) ≤ (i : Int) + 1 := by omega
        have hj4 : ((i : Int) + 1).toNat = i + 1 := by omega
        have hj5 : (i : Int) + 1 ≤ (s.size : Int) := by omega
        clear hbi htk HX hc
        go_wp2_with fail
        rw [← hy]
        go_roundw
        case rel => exact ⟨i + 1, y, rfl, by go_num, by omega, by omega, HY, trivial⟩
        case measure => simp [intOf]; omega
    · have hltI : decide ((i : Int) < (N : Int)) = false := decide_eq_false (by omega)
      obtain rfl : i = N := by omega
      obtain ⟨y, hy⟩ : ∃ y : ByteArray, y = x ++ ⟨#[32, 32, 35, 32, 255]⟩ := ⟨_, rfl⟩
      have hyl : y.size = x.size + 5 := by rw [hy, ByteArray.size_append]; rfl
      have HY : Hid (y.data.toList = 9 :: (dpre bs ++ e1)) := by
        show y.data.toList = _
        rw [hy, app_list, HX.out, ← hbN, List.take_length]
        rfl
      have h1 : ¬ (9223372036854775807 < x.size + 5) := by omega
      have h2 : ¬ (x.size + 5 > 9223372036854775807) := by omega
      clear HX
      go_wp2_with fail
      go_ret
      exact ⟨y, by rw [hy]; rfl, HY.out, by omega, rfl⟩
end Go.Proofs.YtclednbclgkdaaaDoor
