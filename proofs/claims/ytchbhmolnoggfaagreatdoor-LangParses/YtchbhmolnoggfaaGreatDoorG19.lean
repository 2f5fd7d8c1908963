import Derived.Test.YtchbhmolnoggfaaGreatDoorG18
namespace Go.Proofs.YtchbhmolnoggfaaGreatDoor
open Go.RowKit Go.Deep Go.ChangeShapes Go.WideShapes Go.ChangeAt
theorem fls_code : ∀ (ss : List Int) (u : Ins) (pv : Pc) (ps acc : List Pc) (fl : Flt), fls u ss pv ps acc = .error fl → fl.1 ≠ 0
  | [], u, pv, [], acc, fl, h => by cases h
  | [], u, pv, p :: ps, acc, fl, h => by
    have h : Except.error (104, p.ln, p.col) = Except.error fl := h
    injection h with h
    rw [← h]; simp
  | s :: ss, u, pv, [], acc, fl, h => by
    have h : Except.error (102, pv.ln, pv.col + (pv.t.size : Int)) = Except.error fl := h
    injection h with h
    rw [← h]; simp
  | s :: ss, u, pv, p :: ps, acc, fl, h => by
    have h : (if s = 6 then (if nmB p.t = true then fls u ss p ps (acc ++ [p]) else .error (103, p.ln, p.col)) else match fil u s p.t with | none => .error (103, p.ln, p.col) | some u' => fls u' ss p ps acc) = .error fl := h
    split at h
    · split at h
      · exact fls_code ss u p ps (acc ++ [p]) fl h
      · injection h with h
        rw [← h]; simp
    · split at h
      · injection h with h
        rw [← h]; simp
      · exact fls_code ss _ p ps acc fl h
theorem insr_code {m : Nat} {p : Pc} {r : List Pc} {fl : Flt} (h : insR m (p :: r) = .error fl) : fl.1 ≠ 0 := by
  unfold insR at h
  simp only at h
  split at h
  · injection h with h
    rw [← h]; simp
  · split at h
    · injection h with h
      rw [← h]; simp
    · exact fls_code _ _ _ _ _ _ h
theorem lnr_code : ∀ (ws : List Pc) (s : Sx) (fl : Flt), lnR ws s = .error fl → fl.1 ≠ 0
  | [], s, fl, h => by cases h
  | p :: r, s, fl, h => by
    by_cases e : Lib.hasSuffix p.t.data.toList [58] = true
    · rw [lnr_suf e] at h
      split at h
      · split at h
        · injection h with h
          rw [← h]; simp
        · exact lnr_code r _ fl h
      · injection h with h
        rw [← h]; simp
    · rw [lnr_ins (by simpa using e)] at h
      split at h
      · rename_i e' he
        injection h with h
        rw [← h]
        exact insr_code he
      · cases h
theorem lnr_bd : ∀ (ws : List Pc) (s s' : Sx), lnR ws s = .ok s' → s.qs.length ≤ 64 → s'.qs.length ≤ 64 ∧ s'.js.length ≤ s.js.length + 4
  | [], s, s', h, hq => by
    have h : Except.ok s = Except.ok s' := h
    injection h with h
    subst h
    exact ⟨hq, by omega⟩
  | p :: r, s, s', h, hq => by
    by_cases e : Lib.hasSuffix p.t.data.toList [58] = true
    · rw [lnr_suf e] at h
      split at h
      · split at h
        · cases h
        · exact lnr_bd r { s with n := s.n + 1, f := upd s.f (lab p.t) (some s.qs.length) } s' h hq
      · cases h
    · rw [lnr_ins (by simpa using e)] at h
      split at h
      · cases h
      · rename_i q l he
        have := insr_len he
        injection h with h
        subst h
        refine ⟨?_, ?_⟩
        · simp only [List.length_append, List.length_singleton]; omega
        · simp only [List.length_append, List.length_map]; omega
theorem wcl_at : ∀ (l : List Pc) (i : Nat) (p : Pc), l[i]? = some p → (wcl (l.map Pc.wd))[i * 3]? = some (.string p.t) ∧ (wcl (l.map Pc.wd))[i * 3 + 1]? = some (.int .i64 p.col) ∧ (wcl (l.map Pc.wd))[i * 3 + 2]? = some (.int .i64 (p.col + (p.t.size : Int)))
  | [], i, p, h => by simp at h
  | x :: r, 0, p, h => by
    have h : some x = some p := h
    injection h with h
    subst h
    exact ⟨rfl, rfl, rfl⟩
  | x :: r, i + 1, p, h => by
    have hh := wcl_at r i p (by simpa using h)
    have e : wcl ((x :: r).map Pc.wd) = [.string x.t, .int .i64 x.col, .int .i64 (x.col + (x.t.size : Int))] ++ wcl (r.map Pc.wd) := rfl
    rw [e]
    have e3 : (i + 1) * 3 = 3 + i * 3 := by omega
    rw [e3]
    refine ⟨?_, ?_, ?_⟩
    · rw [List.getElem?_append_right (by simp)]
      simpa using hh.1
    · rw [List.getElem?_append_right (by simp; omega)]
      have : 3 + i * 3 + 1 - [Value.string x.t, .int .i64 x.col, .int .i64 (x.col + (x.t.size : Int))].length = i * 3 + 1 := by simp; omega
      rw [this]; exact hh.2.1
    · rw [List.getElem?_append_right (by simp; omega)]
      have : 3 + i * 3 + 2 - [Value.string x.t, .int .i64 x.col, .int .i64 (x.col + (x.t.size : Int))].length = i * 3 + 2 := by simp; omega
      rw [this]; exact hh.2.2
theorem wc_of {W : World} {base : Nat} {v : Value} {ps : List Pc} (h : W.ownsRow base 83 3 v ps.length (wcl (ps.map Pc.wd))) (gx : Nat) : ∃ a g cap, v = .slice a ps.length cap ∧ WC W a g ps ∧ (g = gx ∨ v.ownBlock = some g) := by
  rcases h.2 with ⟨rfl, h0⟩ | ⟨g, cap, cur, e, _⟩
  · have h0 : ps.length = 0 := h0
    obtain rfl := List.length_eq_zero_iff.1 h0
    exact ⟨none, gx, 0, rfl, ⟨fun i p hp => by simp at hp⟩, .inl rfl⟩
  · have hb : v.ownBlock = some g := by rw [e]; rfl
    refine ⟨some ⟨g, 0, none⟩, g, cap, e, ⟨fun i p hp => ?_⟩, .inr hb⟩
    obtain ⟨h1, h2, h3⟩ := wcl_at ps i p hp
    have c1 := h.cells hb _ _ h1
    have c2 := h.cells hb _ _ h2
    have c3 := h.cells hb _ _ h3
    rw [add_at, Nat.zero_add] at c1 c2 c3
    exact ⟨rfl, c1, c2, c3⟩
end Go.Proofs.YtchbhmolnoggfaaGreatDoor

namespace Go.Proofs.YtchbhmolnoggfaaGreatDoor
open Go.RowKit Go.Deep Go.ChangeShapes Go.WideShapes Go.ChangeAt
attribute [local go_sem] Oper.semAt_some run_store_nf run_store_f
theorem results_tc {fn : Func} {p q : Tmp} {ty : TypeId} (h : fn.results = #[.tmp q, .cell p ty]) (tmps : Array Value) (P : Program) (w : World) :
    (results fn tmps).run P w = ((asAddr (tmps.getD p undef)).run P w).andThen fun a w₁ => ((loadVar ty a).run P w₁).andThen fun v w₂ => .ok (.tuple #[tmps.getD q undef, v]) w₂ := by
  simp only [results, h]
  simp [Sem.run_bind, Result.andThen]
def parB (f : Func) : Code := match f.body with | some (.seq _ (.seq _ (.seq _ (.seq _ t)))) => t | _ => .skip
def parC (f : Func) : Code := match f.body with | some (.seq _ (.seq _ (.seq _ (.seq _ (.seq _ t))))) => t | _ => .skip
theorem line_words {wr : World} {base R fb : Nat} {cv nv wv uv : Value} {qs : List Ins} {ns : List (ByteArray × Nat)} {js : List (Nat × Pc)} {m : Nat} (x : ByteArray) (n : Int) (hx : x.size ≤ 4096) (hY : RY wr base R cv nv wv uv qs ns js) (hfb : fb < base) (hfw : fb < wr.heap.size) (hfR : fb ≠ R) (hbw : base ≤ wr.heap.size) (hq : qs.length ≤ 64) (hjl : js.length ≤ 4000000) (hn : ns.length ≤ 19000000) :
    ∀ W1 v, W1.ownsRow wr.heap.size 83 3 v (wds x n).length (wcl ((wds x n).map Pc.wd)) → Keeps (fun _ => False) wr W1 → Calls Tryz.prog 14 #[.pointer (some ⟨R, 0, none⟩), v, .int .i64 n] W1 (LnP W1 base R (ns.length + 4097) (lnR (wds x n) ⟨qs, m, lk ns, js⟩)) := by
  intro W1 v ho k1
  have hbs : (bare x).size ≤ 4096 := Nat.le_trans (bare_size x) hx
  have hL : (wds x n).length ≤ 4097 := Nat.le_trans (wdf_len _ _ _ _) (by omega)
  obtain ⟨a, g, capw, rfl, hwc, hg⟩ := wc_of ho fb
  have hYk := hY.keep k1
  have hlt : g < W1.heap.size := by
    rcases hg with rfl | hg
    · exact Nat.lt_of_lt_of_le hfw k1.size
    · exact owns_lt' ho g hg
  have hown : ∀ v ∈ [cv, nv, wv, uv], ∀ j, v.ownBlock = some j → base ≤ j ∧ j < wr.heap.size := fun v hv j hj => by
    simp only [List.mem_cons, List.mem_nil_iff, or_false] at hv
    rcases hv with rfl | rfl | rfl | rfl
    · exact ⟨owns_base hY.o j hj, owns_lt' hY.o j hj⟩
    · exact ⟨owns_base hY.n j hj, owns_lt' hY.n j hj⟩
    · exact ⟨owns_base hY.p j hj, owns_lt' hY.p j hj⟩
    · exact ⟨owns_base hY.u j hj, owns_lt' hY.u j hj⟩
  have hR := hY.lt
  have hgR : g ≠ R := by
    rcases hg with rfl | hg
    · exact hfR
    · have := owns_base ho g hg
      omega
  have hdg : ∀ v ∈ [cv, nv, wv, uv], v.ownBlock ≠ some g := fun v hv e => by
    have h1 := hown v hv g e
    rcases hg with rfl | hg
    · omega
    · have := owns_base ho g hg
      omega
  refine (rline_T (m0 := m) rfl (by omega) (fun p hp => ⟨(wds_ne x n p hp).2, (wds_ne x n p hp).1, Nat.le_trans (wdf_sz _ _ _ _ p hp) hbs⟩) hYk hwc hlt hgR hdg (Nat.le_trans hbw k1.size) hq hjl (by omega)).mono ?_
  intro e w' h
  unfold LnP at h ⊢
  split at h
  · exact h
  · obtain ⟨h1, ⟨c, n', w2, u, ns', hy, hf, hl⟩, h3⟩ := h
    exact ⟨h1, ⟨c, n', w2, u, ns', hy, hf, by omega⟩, h3⟩
end Go.Proofs.YtchbhmolnoggfaaGreatDoor

namespace Go.Proofs.YtchbhmolnoggfaaGreatDoor
open Go.RowKit Go.Deep Go.ChangeShapes Go.WideShapes Go.ChangeAt
attribute [local go_sem] Oper.semAt_some run_store_nf run_store_f
set_option maxHeartbeats 2000000 in
set_option maxRecDepth 1000000 in
theorem parse_read {w0 : World} {R fb n capl b0 : Nat} {s : ByteArray} {al : Option Addr} {LS : List ByteArray} {RES : Except Flt Sx} {P : Ending → World → Prop} {x1 x6 x7 x8 x9 x10 x11 x12 x13 x14 x15 x16 x17 x18 x19 x20 x21 x22 x23 x24 x25 x26 x27 x28 x29 x30 x31 x32 x33 x34 x35 x36 x37 x38 x39 x40 x41 x42 x43 x44 x45 x46 x47 x48 x49 x50 x51 x52 x53 x54 x55 x56 x57 x58 x59 x60 x61 x62 x63 x64 x65 x66 x67 x68 x69 x70 x71 x72 x73 x74 x75 x76 x77 x78 : Value} (hn : n = LS.length) (hn4 : n ≤ 4097) (hsz : ∀ x ∈ LS, x.size ≤ 4096) (hLS : w0.ownsRow b0 9 1 (.slice al n capl) n (scl LS)) (hlb : Value.ownBlock (.slice al n capl) ≠ some R)
    (hY : RY w0 w0.heap.size R (.slice none 0 0) (.slice none 0 0) (.slice none 0 0) (.slice none 0 0) [] [] []) (hf : CL w0 fb [.int .i64 0, .int .i64 0, .int .i64 0]) (hfR : fb ≠ R) (hRES : rdR LS 0 ⟨[], 0, lk [], []⟩ = RES)
    (hPe : ∀ fl w', RES = .error fl → Keeps (fun i => w0.heap.size ≤ i ∨ i = R ∨ i = fb) w0 w' → P (.returned (.tuple #[.slice none 0 0, .agg #[.int .i64 fl.1, .int .i64 fl.2.1, .int .i64 fl.2.2]])) w')
    (hPo : ∀ (st : Sx) w' cv nv wv uv ns y1 y2 y6 y7 y8 y9 y10 y11 y12 y13 y14 y15 y16 y17 y18 y19 y20 y21 y22 y23 y24 y25 y26 y27 y28 y29 y30 y31 y32 y33 y34 y35 y36 y37 y38 y39 y40 y41 y42 y43 y44 y45 y46 y47 y48 y49 y50 y51 y52 y53 y54 y55 y56 y57 y58 y59 y60 y61 y62 y63 y64 y65 y66 y67 y68 y69 y70 y71 y72 y73 y74 y75 y76 y77 y78, RES = .ok st → RY w' w0.heap.size R cv nv wv uv st.qs ns st.js → st.f = lk ns → ns.length ≤ 19000000 → st.qs.length ≤ 64 → st.js.length ≤ 20000 → Keeps (fun i => w0.heap.size ≤ i ∨ i = R) w0 w' → (parC Tryz.f5).wp Tryz.prog (bodyPost Tryz.prog Tryz.f5 P) { tmps := #[.string s, y1, y2, .pointer (some ⟨fb, 0, none⟩), .pointer (some ⟨R, 0, none⟩), .slice al n capl, y6, y7, y8, y9, y10, y11, y12, y13, y14, y15, y16, y17, y18, y19, y20, y21, y22, y23, y24, y25, y26, y27, y28, y29, y30, y31, y32, y33, y34, y35, y36, y37, y38, y39, y40, y41, y42, y43, y44, y45, y46, y47, y48, y49, y50, y51, y52, y53, y54, y55, y56, y57, y58, y59, y60, y61, y62, y63, y64, y65, y66, y67, y68, y69, y70, y71, y72, y73, y74, y75, y76, y77, y78], defers := [] } w') :
    (parB Tryz.f5).wp Tryz.prog (bodyPost Tryz.prog Tryz.f5 P) { tmps := #[.string s, x1, .slice none 0 0, .pointer (some ⟨fb, 0, none⟩), .pointer (some ⟨R, 0, none⟩), .slice al n capl, x6, x7, x8, x9, x10, x11, x12, x13, x14, x15, x16, x17, x18, x19, x20, x21, x22, x23, x24, x25, x26, x27, x28, x29, x30, x31, x32, x33, x34, x35, x36, x37, x38, x39, x40, x41, x42, x43, x44, x45, x46, x47, x48, x49, x50, x51, x52, x53, x54, x55, x56, x57, x58, x59, x60, x61, x62, x63, x64, x65, x66, x67, x68, x69, x70, x71, x72, x73, x74, x75, x76, x77, x78], defers := [] } w0 := by
  have HE : Hid (∀ fl w', RES = .error fl → Keeps (fun i => w0.heap.size ≤ i ∨ i = R ∨ i = fb) w0 w' → P (.returned (.tuple #[.slice none 0 0, .agg #[.int .i64 fl.1, .int .i64 fl.2.1, .int .i64 fl.2.2]])) w') := hPe
  have HO : Hid (∀ (st : Sx) w' cv nv wv uv ns y1 y2 y6 y7 y8 y9 y10 y11 y12 y13 y14 y15 y16 y17 y18 y19 y20 y21 y22 y23 y24 y25 y26 y27 y28 y29 y30 y31 y32 y33 y34 y35 y36 y37 y38 y39 y40 y41 y42 y43 y44 y45 y46 y47 y48 y49 y50 y51 y52 y53 y54 y55 y56 y57 y58 y59 y60 y61 y62 y63 y64 y65 y66 y67 y68 y69 y70 y71 y72 y73 y74 y75 y76 y77 y78, RES = .ok st → RY w' w0.heap.size R cv nv wv uv st.qs ns st.js → st.f = lk ns → ns.length ≤ 19000000 → st.qs.length ≤ 64 → st.js.length ≤ 20000 → Keeps (fun i => w0.heap.size ≤ i ∨ i = R) w0 w' → (parC Tryz.f5).wp Tryz.prog (bodyPost Tryz.prog Tryz.f5 P) { tmps := #[.string s, y1, y2, .pointer (some ⟨fb, 0, none⟩), .pointer (some ⟨R, 0, none⟩), .slice al n capl, y6, y7, y8, y9, y10, y11, y12, y13, y14, y15, y16, y17, y18, y19, y20, y21, y22, y23, y24, y25, y26, y27, y28, y29, y30, y31, y32, y33, y34, y35, y36, y37, y38, y39, y40, y41, y42, y43, y44, y45, y46, y47, y48, y49, y50, y51, y52, y53, y54, y55, y56, y57, y58, y59, y60, y61, y62, y63, y64, y65, y66, y67, y68, y69, y70, y71, y72, y73, y74, y75, y76, y77, y78], defers := [] } w') := hPo
  have HR0 : Hid (rdR (LS.drop 0) 0 ⟨[], 0, lk [], []⟩ = RES) := hRES
  have HLn0 : Hid (n = LS.length) := hn
  have HSz : Hid (∀ x ∈ LS, x.size ≤ 4096) := hsz
  have hfl := hf.lt (by show 0 < 3; decide)
  clear hPe hPo hRES hn hsz
  dsimp only [parB, Tryz.f5]
  refine wp_seq_k (fun KK hKK => ?_)
  have hKH : Hid _ := hKK
  clear hKK
  go_wp2_with fail
  go_loopw [6] (fun iv Wr => ∃ (i m : Nat) (cv nv wv uv : Value) (qs : List Ins) (ns : List (ByteArray × Nat)) (js : List (Nat × Pc)), iv = .int .i64 (i : Int) ∧ i ≤ n ∧ RY Wr w0.heap.size R cv nv wv uv qs ns js ∧ Hid (ns.length ≤ i * 4097) ∧ qs.length ≤ 64 ∧ js.length ≤ i * 4 ∧ Keeps (fun i => w0.heap.size ≤ i ∨ i = R) w0 Wr ∧ Hid (rdR (LS.drop i) i ⟨qs, m, lk ns, js⟩ = RES)) (fun iv _ => n - (intOf iv).toNat)
  case atStart => exact ⟨0, 0, _, _, _, _, [], [], [], rfl, Nat.zero_le _, hY, Nat.zero_le _, Nat.zero_le _, Nat.zero_le _, Keeps.refl _ _, HR0⟩
  case round =>
    obtain ⟨i, m, cv, nv, wv, uv, qs, ns, js, rfl, hin, hYr, Hnl, hq, hjl, hKr, HF⟩ := hrel
    clear hY
    by_cases hlt : i < n
    · have hltI : decide ((i : Int) < (n : Int)) = true := decide_eq_true (by omega)
      have hltJ : (i : Int) < (n : Int) := by omega
      have hi0 : (0 : Int) ≤ (i : Int) := by omega
      obtain ⟨x, hx⟩ : ∃ x, LS[i]? = some x := ⟨_, List.getElem?_eq_getElem (by rw [← HLn0.out]; exact hlt)⟩
      have hxs := HSz.out x (List.mem_of_getElem? hx)
      have hcn : LS.drop i = x :: LS.drop (i + 1) := by
        obtain ⟨h1, h2⟩ := List.getElem?_eq_some_iff.1 hx
        rw [List.drop_eq_getElem_cons h1, h2]
      have hLr := hKr.owns hLS (fun g hg e => e.elim (fun e => by have := owns_lt' hLS g hg; omega) (fun e => hlb (e ▸ hg)))
      obtain ⟨lb, rfl⟩ : ∃ lb, al = some ⟨lb, 0, none⟩ := by
        rcases hLr.2 with ⟨h1, h2⟩ | ⟨g, cap, cur, h1, _⟩
        · have h2 : n = 0 := h2
          omega
        · injection h1 with h1 _ _
          exact ⟨g, h1⟩
      have c0 := hLr.cells rfl i (.string x) (by unfold scl; rw [List.getElem?_map, hx]; rfl)
      rw [add_at, Nat.zero_add] at c0
      have hWd := rwords_T wr x ((i : Int) + 1) hxs
      have HLn : Hid _ := line_words (m := m) (fb := fb) x ((i : Int) + 1) hxs hYr hfl (Nat.lt_of_lt_of_le hfl hKr.size) hfR hKr.size hq (by omega) (by have := Hnl.out; have : i * 4097 ≤ 4097 * 4097 := Nat.mul_le_mul (by omega) (by omega); omega)
      have hsz0 := hKr.size
      cases hr : lnR (wds x ((i : Int) + 1)) ⟨qs, m, lk ns, js⟩ with
      | ok s' =>
        have HFn : Hid (rdR (LS.drop (i + 1)) (i + 1) s' = RES) := by show _ = _; rw [← HF.out, hcn, rdR, hr]
        have hbd := lnr_bd _ _ _ hr hq
        rw [hr] at HLn
        have HBD : Hid (s'.qs.length ≤ 64 ∧ s'.js.length ≤ js.length + 4) := hbd
        clear hbd hr hcn hx HF
        go_wp2_with (first | (go_at_call 15; refine hWd.mono ?_; rintro e W1 ⟨v, rfl, ho, k1⟩; have hLn := HLn.out W1 v ho k1) | (go_at_call 14; refine hLn.mono ?_; rintro e W2 ⟨rfl, ⟨cv', nv', wv', uv', ns', hy', hf', hl'⟩, k2⟩) | (refine wpList_store_cl rfl 30 _ _ rfl W2.heap.size 0 3 _ rfl rfl rfl (CL.made W2 [.int .i64 0, .int .i64 0, .int .i64 0] 30) (by show 3 ≤ 3; decide) iFr (all_oneCell_toArray (by simp [Value.oneCell'])) ?_; intro w5 hc5 k5 hsz5; clear hsz5; have y0 := hc5.c 0 _ rfl))
        go_roundw
        case rel =>
          obtain ⟨qs', m', f', js'⟩ := s'
          have hf' : f' = lk ns' := hf'
          subst hf'
          have k25 : Keeps (fun _ => False) W2 w5 := (((Keeps.refl (fun _ => False) W2).alloc _).mono (fun _ _ e => e)).trans' k5 (fun _ _ e => e) (fun j hj e => by have e : j = W2.heap.size := e; omega)
          refine ⟨i + 1, m', cv', nv', wv', uv', qs', ns', js', by go_num, by omega, hy'.keep k25, ?_, HBD.out.1, ?_, ?_, HFn⟩
          · show ns'.length ≤ (i + 1) * 4097
            have h1 := Hnl.out
            have h2 : (i + 1) * 4097 = i * 4097 + 4097 := by omega
            omega
          · have h1 := HBD.out.2
            have h1 : js'.length ≤ js.length + 4 := h1
            omega
          · exact ((hKr.trans (k1.mono (fun _ _ e => e.elim))).trans k2).trans (k25.mono (fun _ _ e => e.elim))
        case measure =>
          show n - ((i : Int) + 1).toNat < n - (i : Int).toNat
          omega
      | error fl =>
        obtain ⟨f1, f2, f3⟩ := fl
        have hf1 : f1 ≠ 0 := lnr_code _ _ _ hr
        have HRE : Hid (RES = .error (f1, f2, f3)) := by show _ = _; rw [← HF.out, hcn, rdR, hr]
        rw [hr] at HLn
        have b1 : (f1 == 0) = false := by simpa using hf1
        have b2 : (f1 != 0) = true := by simpa using hf1
        clear hr hcn hx HF hf1
        go_wp2_with (first | (go_at_call 15; refine hWd.mono ?_; rintro e W1 ⟨v, rfl, ho, k1⟩; have hLn := HLn.out W1 v ho k1) | (go_at_call 14; refine hLn.mono ?_; rintro e W2 ⟨rfl, hlp⟩) | (refine wpList_store_cl rfl 30 _ _ rfl W2.heap.size 0 3 _ rfl rfl rfl (CL.made W2 [.int .i64 0, .int .i64 0, .int .i64 0] 30) (by show 3 ≤ 3; decide) iFr (all_oneCell_toArray (by simp [Value.oneCell'])) ?_; intro w5 hc5 k5 hsz5; clear hsz5; have y0 := hc5.c 0 _ rfl))
        have k25 : Keeps (fun _ => False) W2 w5 := (((Keeps.refl (fun _ => False) W2).alloc _).mono (fun _ _ e => e)).trans' k5 (fun _ _ e => e) (fun j hj e => by have e : j = W2.heap.size := e; omega)
        have hKt : Keeps (fun i => w0.heap.size ≤ i ∨ i = R) w0 w5 := ((hKr.trans (k1.mono (fun _ _ e => e.elim))).trans hlp).trans (k25.mono (fun _ _ e => e.elim))
        have hfb5 := hf.keep (by show 0 < 3; decide) hKt (fun e => e.elim (fun e => by omega) hfR)
        have hfw2 : fb < W2.heap.size := Nat.lt_of_lt_of_le (Nat.lt_of_lt_of_le (Nat.lt_of_lt_of_le hfl hsz0) k1.size) hlp.size
        have hc6 : CL w5 W2.heap.size [.int .i64 f1, .int .i64 f2, .int .i64 f3] := hc5
        have hne : ¬ W2.heap.size = fb := by omega
        have hfd := hfb5.keep (by show 0 < 3; decide) (Keeps.refl (fun _ => False) w5).drew (fun e => e)
        refine wp_region_held_drew (S := fun w' => Keeps (fun i => i = fb) w5 w') (by kernel_rfl) (Keeps.refl _ w5).drew (fun hHeld => ?_)
        refine wpAnyH_take (i := 0) (v := .agg #[.int .i64 f1, .int .i64 f2, .int .i64 f3]) rfl (by kernel_rfl) (by kernel_rfl) (by kernel_rfl) (fun _ _ _ h => h) (Or.inl ⟨by rfl, ?_⟩) (by assumption) ?_
        · intro wx hSw
          exact takes_load' 30 _ rfl ⟨W2.heap.size, 0, none⟩ rfl (run_loadVar_mid wx W2.heap.size 0 30 [.int .i64 f1, .int .i64 f2, .int .i64 f3] _ (fun j v e => by have := (hc6.keep (by show 0 < 3; decide) hSw hne).c j v e; rwa [Nat.zero_add]) Tryz.underlying30 rfl (by rw [iFr]; rfl))
        (try simp only [List.getElem_toArray]); (try simp only [List.getElem_cons_succ]); (try simp only [List.getElem_cons_zero]); (try simp only [Act.put]); (try simp only [List.setIfInBounds_toArray]); (repeat first | simp only [List.set_cons_succ] | simp only [List.set_cons_zero])
        refine wpAnyH_take (i := 1) (v := ?_) rfl (by kernel_rfl) (by kernel_rfl) (by kernel_rfl) (fun _ _ _ h => h) (Or.inl ⟨by rfl, ?_⟩) (by assumption) ?_
        rotate_left
        · intro wx hSw;  go_simp <;> with_reducible rfl
        (try simp only [List.getElem_toArray]); (try simp only [List.getElem_cons_succ]); (try simp only [List.getElem_cons_zero]); (try simp only [Act.put]); (try simp only [List.setIfInBounds_toArray]); (repeat first | simp only [List.set_cons_succ] | simp only [List.set_cons_zero])
        refine wpAnyH_store 2 (by kernel_rfl) rfl rfl 30 _ _ rfl fb 0 3 #[.int .i64 f1, .int .i64 f2, .int .i64 f3] rfl rfl rfl (hfd.there (by show 0 + 3 ≤ 3; decide)) iFr (all_oneCell_toArray (by simp [Value.oneCell'])) (hHeld.setsA 0 _) (fun hS3 => ?_)
        (try simp only [List.getElem_toArray]); (try simp only [List.getElem_cons_succ]); (try simp only [List.getElem_cons_zero]); (try simp only [Act.put]); (try simp only [List.setIfInBounds_toArray]); (repeat first | simp only [List.set_cons_succ] | simp only [List.set_cons_zero])
        refine wpAnyH_done (by kernel_rfl) ?_ _
        have hcS : CL (w5.drew.setCells fb 0 [.int .i64 f1, .int .i64 f2, .int .i64 f3]) fb [.int .i64 f1, .int .i64 f2, .int .i64 f3] := hfd.sets (o := 0) (vs := [.int .i64 f1, .int .i64 f2, .int .i64 f3]) (by show 3 ≤ 3; decide)
        have g0 := hcS.c 0 _ rfl
        have g1 := hcS.c 1 _ rfl
        have g2 := hcS.c 2 _ rfl
        go_wp2_with fail
        (try simp only [Exit.inBlock, Exit.then])
        refine bodyPost_ret (v := .tuple #[.slice none 0 0, .agg #[.int .i64 f1, .int .i64 f2, .int .i64 f3]]) (by rw [results_tc rfl]; go_simp) rfl (HE.out (f1, f2, f3) _ HRE.out ?_)
        exact (hKt.mono (fun _ _ e => e.elim .inl (fun e => .inr (.inl e)))).trans (hS3.mono (fun _ _ e => .inr (.inr e)))
    · have hltI : decide ((i : Int) < (n : Int)) = false := decide_eq_false (by omega)
      have hltJ : ¬ (i : Int) < (n : Int) := by omega
      have HRE : Hid (RES = .ok ⟨qs, m, lk ns, js⟩) := by
        show _ = _
        have hd : LS.drop i = [] := List.drop_eq_nil_of_le (by rw [← HLn0.out]; omega)
        rw [← HF.out, hd]; rfl
      go_wp2_with fail
      refine hKH.out _ _ ?_
      have hnl : ns.length ≤ 19000000 := by
        have h1 := Hnl.out
        have h2 : i * 4097 ≤ 4097 * 4097 := Nat.mul_le_mul (by omega) (by omega)
        omega
      exact HO.out ⟨qs, m, lk ns, js⟩ _ cv nv wv uv ns _ _ _ _ _ _ _ _ _ _ _ _ _ _ _ _ _ _ _ _ _ _ _ _ _ _ _ _ _ _ _ _ _ _ _ _ _ _ _ _ _ _ _ _ _ _ _ _ _ _ _ _ _ _ _ _ _ _ _ _ _ _ _ _ _ _ _ _ _ _ _ _ _ _ _ HRE.out hYr rfl hnl hq (by show js.length ≤ 20000; omega) hKr
end Go.Proofs.YtchbhmolnoggfaaGreatDoor

