import Derived.Test.YtchbhmolnoggfaaGreatDoorG15
namespace Go.Proofs.YtchbhmolnoggfaaGreatDoor
open Go.RowKit Go.Deep Go.ChangeShapes Go.WideShapes Go.ChangeAt
attribute [local go_sem] Oper.semAt_some run_store_nf run_store_f
def sgn (s : Int) : UInt8 := if s = 1 then 100 else if s = 2 then 111 else if s = 3 then 120 else if s = 4 then 121 else if s = 5 then 114 else 108
theorem kds_get {c : Nat} (hc : 1 ≤ c ∧ c ≤ 10) : (kdS (c : Int)).size = (slo c).length ∧ ∀ k (h : k < (kdS (c : Int)).size) x, (slo c)[k]? = some x → (kdS (c : Int))[k].toNat = (sgn x).toNat := by
  rcases (by omega : c = 1 ∨ c = 2 ∨ c = 3 ∨ c = 4 ∨ c = 5 ∨ c = 6 ∨ c = 7 ∨ c = 8 ∨ c = 9 ∨ c = 10) with rfl | rfl | rfl | rfl | rfl | rfl | rfl | rfl | rfl | rfl <;>
  (refine ⟨by decide, fun k h x hx => ?_⟩
   match k, h, hx with
   | 0, h, hx => first | (simp [slo] at hx; subst hx; rfl) | (exact absurd h (by decide))
   | 1, h, hx => first | (simp [slo] at hx; subst hx; rfl) | (exact absurd h (by decide))
   | 2, h, hx => first | (simp [slo] at hx; subst hx; rfl) | (exact absurd h (by decide))
   | 3, h, hx => first | (simp [slo] at hx; subst hx; rfl) | (exact absurd h (by decide))
   | k + 4, h, hx => simp [slo] at hx)
def OpA (w : World) (base R ib : Nat) (cv nv wv uv : Value) (qs : List Ins) (ns : List (ByteArray × Nat)) (js : List (Nat × Pc)) (u : Ins) (x : Int) (p : Pc) (e : Ending) (w' : World) : Prop :=
  ∃ ok u' acc uv', e = .returned (.bool ok) ∧ CL w' ib (Ins.cells u') ∧ RY w' base R cv nv wv uv' qs ns (js ++ acc.map (fun p => (qs.length, p))) ∧ (uv'.ownBlock = uv.ownBlock ∨ ∀ g, uv'.ownBlock = some g → w.heap.size ≤ g) ∧ Keeps (fun k => k = ib ∨ k = R ∨ uv.ownBlock = some k) w w' ∧
    (if x = 6 then u' = u ∧ acc = [p] ∧ ok = nmB p.t else acc = [] ∧ OpR (fil u x p.t) ok u')
theorem RY.keepS {w w' : World} {base R : Nat} {cv nv wv uv : Value} {qs : List Ins} {ns : List (ByteArray × Nat)} {js : List (Nat × Pc)} {S : Nat → Prop} (h : RY w base R cv nv wv uv qs ns js) (k : Keeps S w w') (hR : ¬ S R) (hv : ∀ v ∈ [cv, nv, wv, uv], ∀ g, v.ownBlock = some g → ¬ S g) : RY w' base R cv nv wv uv qs ns js :=
  ⟨h.c.keep (by show 0 < 4; decide) k hR, k.owns h.o (hv cv (by simp)), k.owns h.n (hv nv (by simp)), k.owns h.p (hv wv (by simp)), k.owns h.u (hv uv (by simp)), h.b, h.dR, h.d1, h.d2, h.d3⟩
theorem roper_any {w : World} {base R ib : Nat} {cv nv wv uv : Value} {qs : List Ins} {ns : List (ByteArray × Nat)} {js : List (Nat × Pc)} {u : Ins} (x : Int) (hx : 1 ≤ x ∧ x ≤ 6) (p : Pc) (h0 : p.t.size ≠ 0) (hs : p.t.size ≤ 4096) (hI : RY w base R cv nv wv uv qs ns js) (hU : CL w ib u.cells) (hibR : ib ≠ R) (hib : ∀ v ∈ [cv, nv, wv, uv], v.ownBlock ≠ some ib) (hbw : base ≤ w.heap.size) (hjl : js.length ≤ 5000000) :
    Calls Tryz.prog 27 #[.pointer (some ⟨R, 0, none⟩), .pointer (some ⟨ib, 0, none⟩), .int .u8 ((sgn x).toNat : Int), .agg #[.string p.t, .int .i64 p.col, .int .i64 (p.col + (p.t.size : Int))], .int .i64 p.ln] w (OpA w base R ib cv nv wv uv qs ns js u x p) := by
  have key : ∀ r : Option Ins, x ≠ 6 → fil u x p.t = r → ∀ e w', OpP w ib r e w' → OpA w base R ib cv nv wv uv qs ns js u x p e w' := fun r h6 hr e w' ⟨ok, u', e1, hc, kk, ho⟩ => by
    refine ⟨ok, u', [], uv, e1, hc, ?_, .inl rfl, kk.mono (fun _ _ e => .inl e), ?_⟩
    · rw [List.map_nil, List.append_nil]
      exact hI.keepS kk (fun e => hibR e.symm) (fun v hv g hg e => hib v hv (e ▸ hg))
    · rw [if_neg h6, hr]; exact ⟨rfl, ho⟩
  rcases (by omega : x = 1 ∨ x = 2 ∨ x = 3 ∨ x = 4 ∨ x = 5 ∨ x = 6) with rfl | rfl | rfl | rfl | rfl | rfl
  · exact (roper_1 p.t h0 hs _ _ _ hU).mono (key _ (by decide) rfl)
  · exact (roper_2 p.t h0 hs _ _ _ hU).mono (key _ (by decide) rfl)
  · exact (roper_3 p.t h0 hs _ _ _ hU).mono (key _ (by decide) rfl)
  · exact (roper_4 p.t h0 hs _ _ _ hU).mono (key _ (by decide) rfl)
  · exact (roper_5 p.t h0 hs _ _ _ hU).mono (key _ (by decide) rfl)
  · refine (roper_6 (ib := ib) p.t hs p.col (p.col + (p.t.size : Int)) p.ln hI hbw hjl).mono ?_
    rintro e w' ⟨rfl, uv', hy, hf, kk⟩
    refine ⟨nmB p.t, u, [p], uv', rfl, hU.keep (by show 0 < 11; decide) kk (fun e => e.elim hibR (fun e => hib uv (by simp) e)), hy, hf, kk.mono (fun _ _ e => .inr e), ?_⟩
    rw [if_pos rfl]
    exact ⟨rfl, rfl, rfl⟩
theorem fls_more {u u' : Ins} {x : Int} {ss : List Int} {pv p : Pc} {rest acc acc' : List Pc} {ok : Bool} (h : if x = 6 then u' = u ∧ acc' = [p] ∧ ok = nmB p.t else acc' = [] ∧ OpR (fil u x p.t) ok u') :
    fls u (x :: ss) pv (p :: rest) acc = if ok = true then fls u' ss p rest (acc ++ acc') else .error (103, p.ln, p.col) := by
  rw [fls]
  by_cases h6 : x = 6
  · rw [if_pos h6] at h ⊢
    obtain ⟨rfl, rfl, rfl⟩ := h
    rfl
  · rw [if_neg h6] at h ⊢
    obtain ⟨rfl, ho⟩ := h
    rw [List.append_nil]
    cases hf : fil u x p.t with
    | none =>
      rw [hf] at ho
      have ho : ok = false := ho
      subst ho; rfl
    | some u1 =>
      rw [hf] at ho
      obtain ⟨rfl, rfl⟩ := ho
      rfl
theorem wI3 : (Tryz.prog.info? 83).map (·.size) = some 3 := by kernel_rfl
def lineD (f : Func) : Code := match f.body with | some (.seq _ (.seq _ (.seq _ (.seq _ (.seq _ (.seq _ (.seq _ (.seq _ (.seq _ t))))))))) => t | _ => .skip
theorem run_word {W : World} {g i : Nat} {p : Pc} {a : Option Addr} {ps : List Pc} (h : WC W a g ps) (hp : ps[i]? = some p) : (loadVar 83 ⟨g, i * 3, none⟩).run Tryz.prog W = .ok (.agg #[.string p.t, .int .i64 p.col, .int .i64 (p.col + (p.t.size : Int))]) W :=
  run_loadVar_mid W g (i * 3) 83 [.string p.t, .int .i64 p.col, .int .i64 (p.col + (p.t.size : Int))] _ (fun j v e => by
    obtain ⟨_, h1, h2, h3⟩ := h.c i p hp
    match j, e with
    | 0, e => have e : Value.string p.t = v := by simpa using e
              rw [← e, Nat.add_zero]; exact h1
    | 1, e => have e : Value.int .i64 p.col = v := by simpa using e
              rw [← e]; exact h2
    | 2, e => have e : Value.int .i64 (p.col + (p.t.size : Int)) = v := by simpa using e
              rw [← e]; exact h3
    | j + 3, e => simp at e) Tryz.underlying83 rfl (by rw [wI3]; rfl)
set_option maxHeartbeats 4000000 in
set_option maxRecDepth 1000000 in
theorem line_ops {w0 w : World} {base R g rb ib L cap c i0 : Nat} {n : Int} {a : Option Addr} {ps : List Pc} {cv nv wv uv : Value} {qs : List Ins} {ns : List (ByteArray × Nat)} {js : List (Nat × Pc)} {P : Ending → World → Prop} {u0 : Ins} {p0 : Pc} {RES : Except Flt (Ins × List Pc)} {x3 x4 x5 x8 x9 x10 x13 x14 x15 x16 x17 x18 x19 x20 x21 x22 x23 x24 x25 x26 x27 x28 x29 x30 x31 x32 x33 x34 x35 x36 x37 x38 x39 x40 x41 x42 x43 x44 x45 x46 x47 x48 x49 x50 x51 x52 x53 x54 x55 x56 x57 x58 x59 x60 x61 x62 x63 x64 x65 x66 x67 x68 x69 x70 x71 x72 x73 x74 x75 x76 x77 x78 x79 x80 x81 x82 x83 x84 x85 x86 x87 x88 x89 x90 x91 x92 x93 x94 x95 x96 x97 x98 x99 x100 x101 x102 x103 x104 x105 x106 x107 x108 x109 x110 x111 x112 x113 x114 x115 x116 x117 x118 x119 x120 x121 x122 x123 x124 x125 x126 x127 x128 x129 x130 x131 x132 x133 x134 x135 x136 x137 x138 x139 x140 x141 x142 x143 x144 x145 x146 x147 x148 x149 x150 x151 x152 x153 x154 x155 x156 x157 x158 x159 x160 x161 x162 x163 x164 x165 x166 x167 x168 x169 x170 x171 x172 x173 x174 x175 x176 x177 x178 x179 x180 x181 x182 x183 x184 x185 x186 x187 x188 x189 x190 x191 x192 x193 x194 x195 x196 : Value} (hc : 1 ≤ c ∧ c ≤ 10) (hL : L = ps.length) (hl64 : L ≤ 9000) (hp0 : ps[i0]? = some p0) (hps : ∀ p ∈ ps, p.ln = n ∧ p.t.size ≠ 0 ∧ p.t.size ≤ 4096) (hS : LY w0 w base R g rb a ps cv nv wv uv qs ns js) (hU : CL w ib u0.cells) (hibn : ib ≠ R ∧ ib ≠ rb ∧ ib ≠ g) (hib : ∀ v ∈ [cv, nv, wv, uv], v.ownBlock ≠ some ib) (hbi : base ≤ ib) (hq : qs.length ≤ 64) (hjl : js.length ≤ 4000000) (hRES : fls u0 (slo c) p0 (ps.drop (i0 + 1)) [] = RES)
    (hPe : ∀ fl w', RES = .error fl → Keeps (fun i => base ≤ i ∨ i = R) w0 w' → P (.returned (.agg #[.int .i64 fl.1, .int .i64 fl.2.1, .int .i64 fl.2.2])) w')
    (hPo : ∀ q acc w' cv' uv', RES = .ok (q, acc) → RY w' base R cv' nv wv uv' (qs ++ [q]) ns (js ++ acc.map (fun p => (qs.length, p))) → Keeps (fun i => base ≤ i ∨ i = R) w0 w' → P (.returned (.agg #[.int .i64 0, .int .i64 0, .int .i64 0])) w') :
    (lineD Tryz.f14).wp Tryz.prog (bodyPost Tryz.prog Tryz.f14 P) { tmps := #[.pointer (some ⟨R, 0, none⟩), .slice a L cap, .int .i64 n, x3, x4, x5, .pointer (some ⟨rb, 0, none⟩), .int .i64 (i0 : Int), x8, x9, x10, .string (kdS (c : Int)), .pointer (some ⟨ib, 0, none⟩), x13, x14, x15, x16, x17, x18, x19, x20, x21, x22, x23, x24, x25, x26, x27, x28, x29, x30, x31, x32, x33, x34, x35, x36, x37, x38, x39, x40, x41, x42, x43, x44, x45, x46, x47, x48, x49, x50, x51, x52, x53, x54, x55, x56, x57, x58, x59, x60, x61, x62, x63, x64, x65, x66, x67, x68, x69, x70, x71, x72, x73, x74, x75, x76, x77, x78, x79, x80, x81, x82, x83, x84, x85, x86, x87, x88, x89, x90, x91, x92, x93, x94, x95, x96, x97, x98, x99, x100, x101, x102, x103, x104, x105, x106, x107, x108, x109, x110, x111, x112, x113, x114, x115, x116, x117, x118, x119, x120, x121, x122, x123, x124, x125, x126, x127, x128, x129, x130, x131, x132, x133, x134, x135, x136, x137, x138, x139, x140, x141, x142, x143, x144, x145, x146, x147, x148, x149, x150, x151, x152, x153, x154, x155, x156, x157, x158, x159, x160, x161, x162, x163, x164, x165, x166, x167, x168, x169, x170, x171, x172, x173, x174, x175, x176, x177, x178, x179, x180, x181, x182, x183, x184, x185, x186, x187, x188, x189, x190, x191, x192, x193, x194, x195, x196], defers := [] } w := by
  obtain ⟨hks, hkb⟩ := kds_get hc
  have sl := slo_le c
  have HE : Hid (∀ fl w', RES = .error fl → Keeps (fun i => base ≤ i ∨ i = R) w0 w' → P (.returned (.agg #[.int .i64 fl.1, .int .i64 fl.2.1, .int .i64 fl.2.2])) w') := hPe
  have HO : Hid (∀ q acc w' cv' uv', RES = .ok (q, acc) → RY w' base R cv' nv wv uv' (qs ++ [q]) ns (js ++ acc.map (fun p => (qs.length, p))) → Keeps (fun i => base ≤ i ∨ i = R) w0 w' → P (.returned (.agg #[.int .i64 0, .int .i64 0, .int .i64 0])) w') := hPo
  have HR0 : Hid (fls u0 ((slo c).drop 0) p0 (ps.drop (i0 + 1)) [] = RES) := hRES
  have HLp : Hid (L = ps.length) := hL
  have HKb : Hid (∀ k (h : k < (kdS (c : Int)).size) x, (slo c)[k]? = some x → (kdS (c : Int))[k].toNat = (sgn x).toNat) := hkb
  have HKs : Hid ((kdS (c : Int)).size = (slo c).length) := hks
  have hz4 : (kdS (c : Int)).size ≤ 4 := by rw [hks]; exact sl.1
  have HSl : Hid (∀ x ∈ slo c, 1 ≤ x ∧ x ≤ 6) := sl.2
  have hi0L : i0 < L := by rw [hL]; exact (List.getElem?_eq_some_iff.1 hp0).1
  have HPs : Hid (∀ p ∈ ps, p.ln = n ∧ p.t.size ≠ 0 ∧ p.t.size ≤ 4096) := hps
  clear hPe hPo hRES hL hkb hks sl hps
  generalize hz : kdS (c : Int) = z at *
  clear hz
  dsimp only [lineD, Tryz.f14]
  refine wp_seq_k (fun KK hKK => ?_)
  have hKH : Hid _ := hKK
  clear hKK
  go_wp2_with fail
  go_loopw [7, 13] (fun iv kv Wr => ∃ (I k : Nat) (u : Ins) (acc : List Pc) (uv' : Value) (pv : Pc), iv = .int .i64 (I : Int) ∧ kv = .int .i64 (k : Int) ∧ Hid (I = i0 + k) ∧ k ≤ z.size ∧ I < L ∧ Hid (ps[I]? = some pv) ∧ LY w0 Wr base R g rb a ps cv nv wv uv' qs ns (js ++ acc.map (fun p => (qs.length, p))) ∧ CL Wr ib u.cells ∧ Hid (uv'.ownBlock ≠ some ib) ∧ acc.length ≤ k ∧ Hid (fls u ((slo c).drop k) pv (ps.drop (I + 1)) acc = RES)) (fun _ kv _ => z.size - (intOf kv).toNat)
  case atStart => exact ⟨i0, 0, u0, [], uv, p0, rfl, rfl, rfl, Nat.zero_le _, hi0L, hp0, (by rw [List.map_nil, List.append_nil]; exact hS), hU, hib uv (by simp), Nat.le_refl _, HR0⟩
  case round =>
    obtain ⟨I, k, u, acc, uv', pv, rfl, rfl, HI, hk, hIL, Hpv, hSr, hUr, Huv, hal, HF⟩ := hrel
    clear hS hU
    have hf := hSr.f
    have HKr := hSr.k
    have hbg := hSr.bg
    by_cases hlt : k < z.size
    · have hltI : decide ((k : Int) < (z.size : Int)) = true := decide_eq_true (by omega)
      have hltJ : (k : Int) < (z.size : Int) := by omega
      have hk0 : (0 : Int) ≤ (k : Int) := by omega
      obtain ⟨x, hx⟩ : ∃ x, (slo c)[k]? = some x := ⟨_, List.getElem?_eq_getElem (by rw [← HKs.out]; exact hlt)⟩
      have hdr : (slo c).drop k = x :: (slo c).drop (k + 1) := by
        obtain ⟨h1, h2⟩ := List.getElem?_eq_some_iff.1 hx
        rw [List.drop_eq_getElem_cons h1, h2]
      have hx6 := HSl.out x (List.mem_of_getElem? hx)
      have hby := HKb.out k hlt x hx
      by_cases hend : I + 1 = L
      · have hn : ps.drop (I + 1) = [] := List.drop_eq_nil_of_le (by rw [← HLp.out]; omega)
        obtain ⟨e1, _, _, c2⟩ := hSr.wc.c I pv Hpv.out
        have hln := (HPs.out pv (List.mem_of_getElem? Hpv.out)).1
        have HRE : Hid (RES = .error (102, n, pv.col + (pv.t.size : Int))) := by show _ = _; rw [← HF.out, hdr, hn, ← hln]; rfl
        have q1 : (((I : Int) + 1) == (L : Int)) = true := by simp; omega
        have hI0 : (0 : Int) ≤ (I : Int) := by omega
        have hIJ : (I : Int) < (L : Int) := by omega
        subst e1
        generalize hpc : pv.col + (pv.t.size : Int) = pc at *
        clear hpc hx hdr hby hend hn hln
        go_wp2_with (refine wpList_store_cl rfl 30 _ _ rfl rb 0 3 _ rfl rfl rfl hf (by show 3 ≤ 3; decide) iFr (all_oneCell_toArray (by simp [Value.oneCell'])) ?_; intro w5 hc5 k5 hsz5; clear hsz5; have y0 := hc5.c 0 _ rfl; have y1 := hc5.c 1 _ rfl; have y2 := hc5.c 2 _ rfl)
        (try simp only [Exit.inBlock, Exit.then])
        refine bodyPost_ret (v := .agg #[.int .i64 102, .int .i64 n, .int .i64 pc]) (by rw [results_cell1 rfl]; go_simp) rfl (HE.out (102, n, pc) _ HRE.out ?_)
        exact HKr.trans' k5 (fun _ _ e => e) (fun i hi e => by have e : i = rb := e; omega)
      · obtain ⟨p, hp⟩ : ∃ p, ps[I + 1]? = some p := ⟨_, List.getElem?_eq_getElem (by rw [← HLp.out]; omega)⟩
        have q1 : (((I : Int) + 1) == (L : Int)) = false := by simp; omega
        have hI0 : (0 : Int) ≤ (I : Int) + 1 := by omega
        have hIJ : (I : Int) + 1 < (L : Int) := by omega
        obtain ⟨hpl, hp0', hp4⟩ := HPs.out p (List.mem_of_getElem? hp)
        have hcn : ps.drop (I + 1) = p :: ps.drop (I + 1 + 1) := by
          obtain ⟨h1, h2⟩ := List.getElem?_eq_some_iff.1 hp
          rw [List.drop_eq_getElem_cons h1, h2]
        obtain ⟨e1, _, c1, _⟩ := hSr.wc.c (I + 1) p hp
        have HC1 : Hid (wr.cell? ⟨g, (I + 1) * 3 + 1, none⟩ = some (.int .i64 p.col)) := c1
        have hOp := fun W (kW : Keeps (fun _ => False) wr W) => roper_any (w := W) (u := u) x hx6 p hp0' hp4 (hSr.y.keep kW) (hUr.keep (by show 0 < 11; decide) kW (fun e => e)) hibn.1 (fun v hv => by
          simp only [List.mem_cons, List.mem_nil_iff, or_false] at hv
          rcases hv with rfl | rfl | rfl | rfl
          · exact hib _ (by simp)
          · exact hib _ (by simp)
          · exact hib _ (by simp)
          · exact Huv.out) (Nat.le_trans hSr.bw kW.size) (by rw [List.length_append, List.length_map]; omega)
        rw [hpl, ← hby] at hOp
        have HFm : Hid (∀ (u' : Ins) (acc' : List Pc) (ok : Bool), (if x = 6 then u' = u ∧ acc' = [p] ∧ ok = nmB p.t else acc' = [] ∧ OpR (fil u x p.t) ok u') → RES = if ok = true then fls u' ((slo c).drop (k + 1)) p (ps.drop (I + 1 + 1)) (acc ++ acc') else .error (103, n, p.col)) := fun u' acc' ok h => by rw [← HF.out, hdr, hcn, fls_more h, hpl]
        have hRw := fun W (h : WC W a g ps) => run_word h hp
        subst e1
        have HOp : Hid (∀ W, Keeps (fun _ => False) wr W → Calls Tryz.prog 27 #[.pointer (some ⟨R, 0, none⟩), .pointer (some ⟨ib, 0, none⟩), .int .u8 ((z[k].toNat : Nat) : Int), .agg #[.string p.t, .int .i64 p.col, .int .i64 (p.col + (p.t.size : Int))], .int .i64 n] W (OpA W base R ib cv nv wv uv' qs ns (js ++ acc.map (fun p => (qs.length, p))) u x p)) := hOp
        have HRw : Hid (∀ W, WC W (some ⟨g, 0, none⟩) g ps → (loadVar 83 ⟨g, (I + 1) * 3, none⟩).run Tryz.prog W = .ok (.agg #[.string p.t, .int .i64 p.col, .int .i64 (p.col + (p.t.size : Int))]) W) := hRw
        have Hp : Hid (ps[I + 1]? = some p) := hp
        clear hOp hRw hx hdr hby hend hcn hpl hp0' hp4 hp c1
        have hNw : Hid (Keeps (fun _ => False) wr wr.drew) := (Keeps.refl _ wr).drew
        have hWC := hSr.wc.keep hNw.out (fun e => e)
        go_wp2_with fail
        refine wp_region_held_drew (S := fun w' => WC w' (some ⟨g, 0, none⟩) g ps) (by kernel_rfl) hWC (fun hHeld => ?_)
        refine wpAnyH_take (i := 0) (v := ?_) rfl (by kernel_rfl) (by kernel_rfl) (by kernel_rfl) (fun _ _ _ h => h) (Or.inl ⟨by rfl, ?_⟩) (by assumption) ?_
        rotate_left
        · intro wx hSw;  go_simp <;> with_reducible rfl
        (try simp only [List.getElem_toArray]); (try simp only [List.getElem_cons_succ]); (try simp only [List.getElem_cons_zero]); (try simp only [Act.put]); (try simp only [List.setIfInBounds_toArray]); (repeat first | simp only [List.set_cons_succ] | simp only [List.set_cons_zero])
        refine wpAnyH_take (i := 1) (v := ?_) rfl (by kernel_rfl) (by kernel_rfl) (by kernel_rfl) (fun _ _ _ h => h) (Or.inl ⟨by rfl, ?_⟩) (by assumption) ?_
        rotate_left
        · intro wx hSw;  go_simp <;> with_reducible rfl
        (try simp only [List.getElem_toArray]); (try simp only [List.getElem_cons_succ]); (try simp only [List.getElem_cons_zero]); (try simp only [Act.put]); (try simp only [List.setIfInBounds_toArray]); (repeat first | simp only [List.set_cons_succ] | simp only [List.set_cons_zero])
        refine wpAnyH_take (i := 2) (v := ?_) rfl (by kernel_rfl) (by kernel_rfl) (by kernel_rfl) (fun _ _ _ h => h) (Or.inl ⟨by rfl, ?_⟩) (by assumption) ?_
        rotate_left
        · intro wx hSw;  go_simp <;> with_reducible rfl
        (try simp only [List.getElem_toArray]); (try simp only [List.getElem_cons_succ]); (try simp only [List.getElem_cons_zero]); (try simp only [Act.put]); (try simp only [List.setIfInBounds_toArray]); (repeat first | simp only [List.set_cons_succ] | simp only [List.set_cons_zero])
        refine wpAnyH_take (i := 3) (v := ?_) rfl (by kernel_rfl) (by kernel_rfl) (by kernel_rfl) (fun _ _ _ h => h) (Or.inl ⟨by rfl, ?_⟩) (by assumption) ?_
        rotate_left
        · intro wx hSw;  go_simp <;> with_reducible rfl
        (try simp only [List.getElem_toArray]); (try simp only [List.getElem_cons_succ]); (try simp only [List.getElem_cons_zero]); (try simp only [Act.put]); (try simp only [List.setIfInBounds_toArray]); (repeat first | simp only [List.set_cons_succ] | simp only [List.set_cons_zero])
        refine wpAnyH_take (i := 4) (v := ?_) rfl (by kernel_rfl) (by kernel_rfl) (by kernel_rfl) (fun _ _ _ h => h) (Or.inl ⟨by rfl, ?_⟩) (by assumption) ?_
        rotate_left
        · intro wx hSw;  go_simp <;> with_reducible rfl
        (try simp only [List.getElem_toArray]); (try simp only [List.getElem_cons_succ]); (try simp only [List.getElem_cons_zero]); (try simp only [Act.put]); (try simp only [List.setIfInBounds_toArray]); (repeat first | simp only [List.set_cons_succ] | simp only [List.set_cons_zero])
        refine wpAnyH_take (i := 5) (v := ?_) rfl (by kernel_rfl) (by kernel_rfl) (by kernel_rfl) (fun _ _ _ h => h) (Or.inl ⟨by rfl, ?_⟩) (by assumption) ?_
        rotate_left
        · intro wx hSw;  go_simp <;> with_reducible rfl
        (try simp only [List.getElem_toArray]); (try simp only [List.getElem_cons_succ]); (try simp only [List.getElem_cons_zero]); (try simp only [Act.put]); (try simp only [List.setIfInBounds_toArray]); (repeat first | simp only [List.set_cons_succ] | simp only [List.set_cons_zero])
        refine wpAnyH_take (i := 6) (v := ?_) rfl (by kernel_rfl) (by kernel_rfl) (by kernel_rfl) (fun _ _ _ h => h) (Or.inl ⟨by rfl, ?_⟩) (by assumption) ?_
        rotate_left
        · intro wx hSw;  go_simp <;> with_reducible rfl
        (try simp only [List.getElem_toArray]); (try simp only [List.getElem_cons_succ]); (try simp only [List.getElem_cons_zero]); (try simp only [Act.put]); (try simp only [List.setIfInBounds_toArray]); (repeat first | simp only [List.set_cons_succ] | simp only [List.set_cons_zero])
        refine wpAnyH_take (i := 7) (v := .agg #[.string p.t, .int .i64 p.col, .int .i64 (p.col + (p.t.size : Int))]) rfl (by kernel_rfl) (by kernel_rfl) (by kernel_rfl) (fun _ _ _ h => h) (Or.inl ⟨by rfl, ?_⟩) (by assumption) ?_
        · intro wx hSw
          exact takes_load' 83 _ rfl ⟨g, (I + 1) * 3, none⟩ rfl (HRw.out wx hSw)
        (try simp only [List.getElem_toArray]); (try simp only [List.getElem_cons_succ]); (try simp only [List.getElem_cons_zero]); (try simp only [Act.put]); (try simp only [List.setIfInBounds_toArray]); (repeat first | simp only [List.set_cons_succ] | simp only [List.set_cons_zero])
        refine wpAnyH_take (i := 8) (v := ?_) rfl (by kernel_rfl) (by kernel_rfl) (by kernel_rfl) (fun _ _ _ h => h) (Or.inl ⟨by rfl, ?_⟩) (by assumption) ?_
        rotate_left
        · intro wx hSw;  go_simp <;> with_reducible rfl
        (try simp only [List.getElem_toArray]); (try simp only [List.getElem_cons_succ]); (try simp only [List.getElem_cons_zero]); (try simp only [Act.put]); (try simp only [List.setIfInBounds_toArray]); (repeat first | simp only [List.set_cons_succ] | simp only [List.set_cons_zero])
        refine wpAnyH_one 9 (by kernel_rfl) rfl rfl ?_
        go_simp
        refine (HOp.out wr.drew hNw.out).mono ?_
        clear HOp HRw
        rintro e w4 ⟨ok, u', acc', uv2, rfl, hU4, hY4, hbl4, k4, hcase⟩
        have K4 : Keeps (fun k => k = ib ∨ k = R ∨ uv'.ownBlock = some k) wr w4 := (hNw.out.mono (fun _ _ e => e.elim)).trans k4
        have hSg : ¬ (g = ib ∨ g = R ∨ uv'.ownBlock = some g) := fun e => e.elim (fun e => hibn.2.2 e.symm) (fun e => e.elim hSr.gn.1 (hSr.dg uv' (by simp)).1)
        have hSrb : ¬ (rb = ib ∨ rb = R ∨ uv'.ownBlock = some rb) := fun e => e.elim (fun e => hibn.2.1 e.symm) (fun e => e.elim hSr.gn.2.1 (hSr.dg uv' (by simp)).2)
        have W4 := hSr.wc.keep K4 hSg
        have c4 := K4.cell HC1.out hSg
        have hf4 := hf.keep (by show 0 < 3; decide) K4 hSrb
        have HK4 : Keeps (fun i => base ≤ i ∨ i = R) w0 w4 := HKr.trans' K4 (fun _ _ e => e) (fun i hi e => e.elim (fun e => .inl (e ▸ hbi)) (fun e => e.elim (fun e => .inr e) (fun e => .inl (owns_base hSr.y.u i e))))
        refine ⟨W4, fun hW4' => ?_⟩
        (try simp only [List.getElem_toArray]); (try simp only [List.getElem_cons_succ]); (try simp only [List.getElem_cons_zero]); (try simp only [Act.put]); (try simp only [List.setIfInBounds_toArray]); (repeat first | simp only [List.set_cons_succ] | simp only [List.set_cons_zero])
        cases ok with
        | false =>
          have HRE : Hid (RES = .error (103, n, p.col)) := (HFm.out u' acc' false hcase).trans (if_neg (by simp))
          clear HFm hcase hY4 hU4 hbl4 hf hSr hUr
          generalize hpc : p.col = pc at *
          clear hpc
          refine wpAnyH_take (i := 10) (v := ?_) rfl (by kernel_rfl) (by kernel_rfl) (by kernel_rfl) (fun _ _ _ h => h) (Or.inl ⟨by rfl, ?_⟩) (by assumption) ?_
          rotate_left
          · intro wx hSw;  go_simp <;> with_reducible rfl
          (try simp only [List.getElem_toArray]); (try simp only [List.getElem_cons_succ]); (try simp only [List.getElem_cons_zero]); (try simp only [Act.put]); (try simp only [List.setIfInBounds_toArray]); (repeat first | simp only [List.set_cons_succ] | simp only [List.set_cons_zero])
          refine wpAnyH_done (by kernel_rfl) ?_ _
          go_wp2_with (refine wpList_store_cl rfl 30 _ _ rfl rb 0 3 _ rfl rfl rfl hf4 (by show 3 ≤ 3; decide) iFr (all_oneCell_toArray (by simp [Value.oneCell'])) ?_; intro w5 hc5 k5 hsz5; clear hsz5; have y0 := hc5.c 0 _ rfl; have y1 := hc5.c 1 _ rfl; have y2 := hc5.c 2 _ rfl)
          (try simp only [Exit.inBlock, Exit.then])
          refine bodyPost_ret (v := .agg #[.int .i64 103, .int .i64 n, .int .i64 pc]) (by rw [results_cell1 rfl]; go_simp) rfl (HE.out (103, n, pc) _ HRE.out ?_)
          exact HK4.trans' k5 (fun _ _ e => e) (fun i hi e => by have e : i = rb := e; omega)
        | true =>
          have HFn : Hid (fls u' ((slo c).drop (k + 1)) p (ps.drop (I + 1 + 1)) (acc ++ acc') = RES) := ((HFm.out u' acc' true hcase).trans (if_pos rfl)).symm
          have hal' : (acc ++ acc').length ≤ k + 1 := by
            rw [List.length_append]
            by_cases h6 : x = 6
            · rw [if_pos h6] at hcase; rw [hcase.2.1]; simp; omega
            · rw [if_neg h6] at hcase; rw [hcase.1]; simp; omega
          have hrbl := hf.lt (by show 0 < 3; decide)
          have hibl := hUr.lt (by show 0 < 11; decide)
          have hgl := hSr.lt
          have hfr : ∀ m, m < wr.heap.size → uv'.ownBlock ≠ some m → uv2.ownBlock ≠ some m := fun m hm h e => by
            rcases hbl4 with h1 | h1
            · exact h (h1.symm.trans e)
            · have h2 : wr.heap.size ≤ m := h1 m e
              omega
          have hS4 : LY w0 w4 base R g rb (some ⟨g, 0, none⟩) ps cv nv wv uv2 qs ns (js ++ (acc ++ acc').map (fun p => (qs.length, p))) := ⟨by rw [List.map_append, ← List.append_assoc]; exact hY4, W4, hf4, Nat.lt_of_lt_of_le hgl K4.size, hSr.gn, fun v hv => by
            simp only [List.mem_cons, List.mem_nil_iff, or_false] at hv
            rcases hv with rfl | rfl | rfl | rfl
            · exact hSr.dg _ (by simp)
            · exact hSr.dg _ (by simp)
            · exact hSr.dg _ (by simp)
            · exact ⟨hfr g hgl (hSr.dg uv' (by simp)).1, hfr rb hrbl (hSr.dg uv' (by simp)).2⟩, HK4, hSr.bg, Nat.le_trans hSr.bw K4.size⟩
          have Huv2 : Hid (uv2.ownBlock ≠ some ib) := hfr ib hibl Huv.out
          clear HFm hcase hY4 hbl4 hf hSr hUr hfr
          refine wpAnyH_take (i := 10) (v := ?_) rfl (by kernel_rfl) (by kernel_rfl) (by kernel_rfl) (fun _ _ _ h => h) (Or.inl ⟨by rfl, ?_⟩) (by assumption) ?_
          rotate_left
          · intro wx hSw;  go_simp <;> with_reducible rfl
          (try simp only [List.getElem_toArray]); (try simp only [List.getElem_cons_succ]); (try simp only [List.getElem_cons_zero]); (try simp only [Act.put]); (try simp only [List.setIfInBounds_toArray]); (repeat first | simp only [List.set_cons_succ] | simp only [List.set_cons_zero])
          refine wpAnyH_done (by kernel_rfl) ?_ _
          go_wp2_with fail
          go_roundw
          case rel => exact ⟨I + 1, k + 1, u', acc ++ acc', uv2, p, by go_num, by go_num, (by show _ = _; have := HI.out; omega), by omega, by omega, Hp, hS4, hU4, Huv2, hal', HFn⟩
          case measure =>
            show z.size - ((k : Int) + 1).toNat < z.size - (k : Int).toNat
            omega
    · have hke : k = z.size := by omega
      have hltI : decide ((k : Int) < (z.size : Int)) = false := decide_eq_false (by omega)
      have hltJ : ¬ (k : Int) < (z.size : Int) := by omega
      have HR : Hid (fls u [] pv (ps.drop (I + 1)) acc = RES) := by
        show _ = _
        have hd : (slo c).drop k = [] := List.drop_eq_nil_of_le (by rw [← HKs.out]; omega)
        rw [← HF.out, hd]
      go_wp2_with fail
      refine hKH.out _ _ ?_
      by_cases hend : I + 1 = L
      · refine line_done (i := I) hend (by omega) hSr hUr ⟨hibn.1, hibn.2.1, hib cv (by simp)⟩ hq (fun w' cv' h1 h2 => HO.out u acc w' cv' uv' ?_ h1 h2)
        rw [← HR.out, List.drop_eq_nil_of_le (by rw [← HLp.out]; omega)]; rfl
      · obtain ⟨p, hp⟩ : ∃ p, ps[I + 1]? = some p := ⟨_, List.getElem?_eq_getElem (by rw [← HLp.out]; omega)⟩
        have hpl := (HPs.out p (List.mem_of_getElem? hp)).1
        refine line_extra (i := I) HLp.out hp hSr (by omega) (fun w' h => HE.out (104, n, p.col) w' ?_ h)
        obtain ⟨h1, h2⟩ := List.getElem?_eq_some_iff.1 hp
        rw [← HR.out, List.drop_eq_getElem_cons h1, h2, ← hpl]; rfl
end Go.Proofs.YtchbhmolnoggfaaGreatDoor

namespace Go.Proofs.YtchbhmolnoggfaaGreatDoor
open Go.RowKit Go.Deep Go.ChangeShapes Go.WideShapes Go.ChangeAt
attribute [local go_sem] Oper.semAt_some run_store_nf run_store_f
theorem kindsOf_zero (w : World) : Calls Tryz.prog 26 #[.int .i64 0] w fun e w' => e = .returned (.string (kdS 0)) ∧ w' = w := by
  go_enter Tryz.func26, Tryz.ntmps26
  go_wp2
  go_ret
  exact ⟨rfl, rfl⟩
theorem LY.keepS {w0 w w' : World} {base R g rb : Nat} {a : Option Addr} {ps : List Pc} {cv nv wv uv : Value} {qs : List Ins} {ns : List (ByteArray × Nat)} {js : List (Nat × Pc)} {S : Nat → Prop} (h : LY w0 w base R g rb a ps cv nv wv uv qs ns js) (k : Keeps S w w') (hS : ∀ i, S i → w.heap.size ≤ i) : LY w0 w' base R g rb a ps cv nv wv uv qs ns js := by
  have hR : ¬ S R := fun e => by have := hS R e; have := h.y.lt; omega
  have hr : ¬ S rb := fun e => by have := hS rb e; have := h.f.lt (by show 0 < 3; decide); omega
  have hg : ¬ S g := fun e => by have := hS g e; have := h.lt; omega
  refine ⟨h.y.keepS k hR (fun v hv j hj e => ?_), h.wc.keep k hg, h.f.keep (by show 0 < 3; decide) k hr, Nat.lt_of_lt_of_le h.lt k.size, h.gn, h.dg, h.k.trans' k (fun _ _ e => e) (fun i hi e => .inl (Nat.le_trans h.bw (hS i e))), h.bg, Nat.le_trans h.bw k.size⟩
  have h1 := hS j e
  have h2 : j < w.heap.size := by
    simp only [List.mem_cons, List.mem_nil_iff, or_false] at hv
    rcases hv with rfl | rfl | rfl | rfl
    · exact owns_lt' h.y.o j hj
    · exact owns_lt' h.y.n j hj
    · exact owns_lt' h.y.p j hj
    · exact owns_lt' h.y.u j hj
  omega
theorem LY.own_lt {w0 w : World} {base R g rb : Nat} {a : Option Addr} {ps : List Pc} {cv nv wv uv : Value} {qs : List Ins} {ns : List (ByteArray × Nat)} {js : List (Nat × Pc)} (h : LY w0 w base R g rb a ps cv nv wv uv qs ns js) : ∀ v ∈ [cv, nv, wv, uv], v.ownBlock ≠ some w.heap.size := fun v hv e => by
  simp only [List.mem_cons, List.mem_nil_iff, or_false] at hv
  rcases hv with rfl | rfl | rfl | rfl
  · exact Nat.lt_irrefl _ (owns_lt' h.y.o _ e)
  · exact Nat.lt_irrefl _ (owns_lt' h.y.n _ e)
  · exact Nat.lt_irrefl _ (owns_lt' h.y.p _ e)
  · exact Nat.lt_irrefl _ (owns_lt' h.y.u _ e)
theorem nmd_form {t : ByteArray} {q : Ins} (h0 : t.size ≠ 0) (h : nmd t = some q) : ∃ (c : Nat) (o : Int), (1 ≤ c ∧ c ≤ 10) ∧ q = { ins0 with code := (c : Int), op := o } := by
  obtain ⟨c, h1, h2, h3⟩ := nmd_code h
  rcases nmd_inv h0 h with ⟨o, _, e⟩ | ⟨d, _, e⟩
  · refine ⟨c, o, ⟨h2, h3⟩, ?_⟩
    rw [e] at h1 ⊢
    rw [← h1]
  · refine ⟨c, 0, ⟨h2, h3⟩, ?_⟩
    rw [e] at h1 ⊢
    rw [← h1]; rfl
theorem slo_c {c : Nat} {o : Int} : slo ({ ins0 with code := (c : Int), op := o } : Ins).code.toNat = slo c := by
  show slo (c : Int).toNat = _
  rw [Int.toNat_natCast]
theorem iRf : (Tryz.prog.info? 59).map (·.size) = some 11 := by kernel_rfl
def lineC (f : Func) : Code := match f.body with | some (.seq _ (.seq _ (.seq _ t))) => t | _ => .skip
set_option maxHeartbeats 1000000 in
set_option maxRecDepth 1000000 in
theorem line_none {w0 w : World} {base R g rb L cap i0 : Nat} {n : Int} {a : Option Addr} {ps : List Pc} {cv nv wv uv : Value} {qs : List Ins} {ns : List (ByteArray × Nat)} {js : List (Nat × Pc)} {P : Ending → World → Prop} {x3 x4 x5 x8 x9 x10 x11 x12 x13 x14 x15 x16 x17 x18 x19 x20 x21 x22 x23 x24 x25 x26 x27 x28 x29 x30 x31 x32 x33 x34 x35 x36 x37 x38 x39 x40 x41 x42 x43 x44 x45 x46 x47 x48 x49 x50 x51 x52 x53 x54 x55 x56 x57 x58 x59 x60 x61 x62 x63 x64 x65 x66 x67 x68 x69 x70 x71 x72 x73 x74 x75 x76 x77 x78 x79 x80 x81 x82 x83 x84 x85 x86 x87 x88 x89 x90 x91 x92 x93 x94 x95 x96 x97 x98 x99 x100 x101 x102 x103 x104 x105 x106 x107 x108 x109 x110 x111 x112 x113 x114 x115 x116 x117 x118 x119 x120 x121 x122 x123 x124 x125 x126 x127 x128 x129 x130 x131 x132 x133 x134 x135 x136 x137 x138 x139 x140 x141 x142 x143 x144 x145 x146 x147 x148 x149 x150 x151 x152 x153 x154 x155 x156 x157 x158 x159 x160 x161 x162 x163 x164 x165 x166 x167 x168 x169 x170 x171 x172 x173 x174 x175 x176 x177 x178 x179 x180 x181 x182 x183 x184 x185 x186 x187 x188 x189 x190 x191 x192 x193 x194 x195 x196 : Value} (hL : i0 = L) (hS : LY w0 w base R g rb a ps cv nv wv uv qs ns js)
    (hP : ∀ w', RY w' base R cv nv wv uv qs ns js → Keeps (fun i => base ≤ i ∨ i = R) w0 w' → P (.returned (.agg #[.int .i64 0, .int .i64 0, .int .i64 0])) w') :
    (lineC Tryz.f14).wp Tryz.prog (bodyPost Tryz.prog Tryz.f14 P) { tmps := #[.pointer (some ⟨R, 0, none⟩), .slice a L cap, .int .i64 n, x3, x4, x5, .pointer (some ⟨rb, 0, none⟩), .int .i64 (i0 : Int), x8, x9, x10, x11, x12, x13, x14, x15, x16, x17, x18, x19, x20, x21, x22, x23, x24, x25, x26, x27, x28, x29, x30, x31, x32, x33, x34, x35, x36, x37, x38, x39, x40, x41, x42, x43, x44, x45, x46, x47, x48, x49, x50, x51, x52, x53, x54, x55, x56, x57, x58, x59, x60, x61, x62, x63, x64, x65, x66, x67, x68, x69, x70, x71, x72, x73, x74, x75, x76, x77, x78, x79, x80, x81, x82, x83, x84, x85, x86, x87, x88, x89, x90, x91, x92, x93, x94, x95, x96, x97, x98, x99, x100, x101, x102, x103, x104, x105, x106, x107, x108, x109, x110, x111, x112, x113, x114, x115, x116, x117, x118, x119, x120, x121, x122, x123, x124, x125, x126, x127, x128, x129, x130, x131, x132, x133, x134, x135, x136, x137, x138, x139, x140, x141, x142, x143, x144, x145, x146, x147, x148, x149, x150, x151, x152, x153, x154, x155, x156, x157, x158, x159, x160, x161, x162, x163, x164, x165, x166, x167, x168, x169, x170, x171, x172, x173, x174, x175, x176, x177, x178, x179, x180, x181, x182, x183, x184, x185, x186, x187, x188, x189, x190, x191, x192, x193, x194, x195, x196], defers := [] } w := by
  have q0 : ((i0 : Int) == (L : Int)) = true := by simp; omega
  have hf := hS.f
  have hbg := hS.bg
  have HP : Hid (∀ w', RY w' base R cv nv wv uv qs ns js → Keeps (fun i => base ≤ i ∨ i = R) w0 w' → P (.returned (.agg #[.int .i64 0, .int .i64 0, .int .i64 0])) w') := hP
  clear hP hL
  dsimp only [lineC, Tryz.f14]
  go_wp2_with (refine wpList_store_cl rfl 30 _ _ rfl rb 0 3 _ rfl rfl rfl hf (by show 3 ≤ 3; decide) iFr (all_oneCell_toArray (by simp [Value.oneCell'])) ?_; intro w5 hc5 k5 hsz5; clear hsz5; have y0 := hc5.c 0 _ rfl; have y1 := hc5.c 1 _ rfl; have y2 := hc5.c 2 _ rfl)
  (try simp only [Exit.inBlock, Exit.then])
  refine bodyPost_ret (v := .agg #[.int .i64 0, .int .i64 0, .int .i64 0]) (by rw [results_cell1 rfl]; go_simp) rfl (HP.out _ ?_ ?_)
  · exact hS.y.keepS k5 (fun e => hS.gn.2.1 (show R = rb from e).symm) (fun v hv j hj e => (hS.dg v hv).2 (by rw [← (show j = rb from e)]; exact hj))
  · exact hS.k.trans' k5 (fun _ _ e => e) (fun i hi e => by have e : i = rb := e; omega)
set_option maxHeartbeats 2000000 in
set_option maxRecDepth 1000000 in
theorem line_ins {w0 w : World} {base R g rb L cap i0 : Nat} {n : Int} {a : Option Addr} {ps : List Pc} {cv nv wv uv : Value} {qs : List Ins} {ns : List (ByteArray × Nat)} {js : List (Nat × Pc)} {P : Ending → World → Prop} {p0 : Pc} {RES : Except Flt (Ins × List Pc)} {x3 x4 x5 x8 x9 x10 x11 x12 x13 x14 x15 x16 x17 x18 x19 x20 x21 x22 x23 x24 x25 x26 x27 x28 x29 x30 x31 x32 x33 x34 x35 x36 x37 x38 x39 x40 x41 x42 x43 x44 x45 x46 x47 x48 x49 x50 x51 x52 x53 x54 x55 x56 x57 x58 x59 x60 x61 x62 x63 x64 x65 x66 x67 x68 x69 x70 x71 x72 x73 x74 x75 x76 x77 x78 x79 x80 x81 x82 x83 x84 x85 x86 x87 x88 x89 x90 x91 x92 x93 x94 x95 x96 x97 x98 x99 x100 x101 x102 x103 x104 x105 x106 x107 x108 x109 x110 x111 x112 x113 x114 x115 x116 x117 x118 x119 x120 x121 x122 x123 x124 x125 x126 x127 x128 x129 x130 x131 x132 x133 x134 x135 x136 x137 x138 x139 x140 x141 x142 x143 x144 x145 x146 x147 x148 x149 x150 x151 x152 x153 x154 x155 x156 x157 x158 x159 x160 x161 x162 x163 x164 x165 x166 x167 x168 x169 x170 x171 x172 x173 x174 x175 x176 x177 x178 x179 x180 x181 x182 x183 x184 x185 x186 x187 x188 x189 x190 x191 x192 x193 x194 x195 x196 : Value} (hL : L = ps.length) (hl64 : L ≤ 9000) (hp0 : ps[i0]? = some p0) (hps : ∀ p ∈ ps, p.ln = n ∧ p.t.size ≠ 0 ∧ p.t.size ≤ 4096) (hS : LY w0 w base R g rb a ps cv nv wv uv qs ns js) (hq : qs.length ≤ 64) (hjl : js.length ≤ 4000000) (hRES : insR qs.length (p0 :: ps.drop (i0 + 1)) = RES)
    (hPe : ∀ fl w', RES = .error fl → Keeps (fun i => base ≤ i ∨ i = R) w0 w' → P (.returned (.agg #[.int .i64 fl.1, .int .i64 fl.2.1, .int .i64 fl.2.2])) w')
    (hPo : ∀ q acc w' cv' uv', RES = .ok (q, acc) → RY w' base R cv' nv wv uv' (qs ++ [q]) ns (js ++ acc.map (fun p => (qs.length, p))) → Keeps (fun i => base ≤ i ∨ i = R) w0 w' → P (.returned (.agg #[.int .i64 0, .int .i64 0, .int .i64 0])) w') :
    (lineC Tryz.f14).wp Tryz.prog (bodyPost Tryz.prog Tryz.f14 P) { tmps := #[.pointer (some ⟨R, 0, none⟩), .slice a L cap, .int .i64 n, x3, x4, x5, .pointer (some ⟨rb, 0, none⟩), .int .i64 (i0 : Int), x8, x9, x10, x11, x12, x13, x14, x15, x16, x17, x18, x19, x20, x21, x22, x23, x24, x25, x26, x27, x28, x29, x30, x31, x32, x33, x34, x35, x36, x37, x38, x39, x40, x41, x42, x43, x44, x45, x46, x47, x48, x49, x50, x51, x52, x53, x54, x55, x56, x57, x58, x59, x60, x61, x62, x63, x64, x65, x66, x67, x68, x69, x70, x71, x72, x73, x74, x75, x76, x77, x78, x79, x80, x81, x82, x83, x84, x85, x86, x87, x88, x89, x90, x91, x92, x93, x94, x95, x96, x97, x98, x99, x100, x101, x102, x103, x104, x105, x106, x107, x108, x109, x110, x111, x112, x113, x114, x115, x116, x117, x118, x119, x120, x121, x122, x123, x124, x125, x126, x127, x128, x129, x130, x131, x132, x133, x134, x135, x136, x137, x138, x139, x140, x141, x142, x143, x144, x145, x146, x147, x148, x149, x150, x151, x152, x153, x154, x155, x156, x157, x158, x159, x160, x161, x162, x163, x164, x165, x166, x167, x168, x169, x170, x171, x172, x173, x174, x175, x176, x177, x178, x179, x180, x181, x182, x183, x184, x185, x186, x187, x188, x189, x190, x191, x192, x193, x194, x195, x196], defers := [] } w := by
  have HE : Hid (∀ fl w', RES = .error fl → Keeps (fun i => base ≤ i ∨ i = R) w0 w' → P (.returned (.agg #[.int .i64 fl.1, .int .i64 fl.2.1, .int .i64 fl.2.2])) w') := hPe
  have HO : Hid (∀ q acc w' cv' uv', RES = .ok (q, acc) → RY w' base R cv' nv wv uv' (qs ++ [q]) ns (js ++ acc.map (fun p => (qs.length, p))) → Keeps (fun i => base ≤ i ∨ i = R) w0 w' → P (.returned (.agg #[.int .i64 0, .int .i64 0, .int .i64 0])) w') := hPo
  have hi0L : i0 < L := by rw [hL]; exact (List.getElem?_eq_some_iff.1 hp0).1
  obtain ⟨hpl, hpz, hp4⟩ := hps p0 (List.mem_of_getElem? hp0)
  have HPs : Hid (∀ p ∈ ps, p.ln = n ∧ p.t.size ≠ 0 ∧ p.t.size ≤ 4096) := hps
  obtain ⟨e1, c0, c1, _⟩ := hS.wc.c i0 p0 hp0
  have Hp0 : Hid (ps[i0]? = some p0) := hp0
  have HL : Hid (L = ps.length) := hL
  have hf := hS.f
  have HK := hS.k
  have hbg := hS.bg
  have hC := rcode_T w p0.t hpz
  have q0 : ((i0 : Int) == (L : Int)) = false := by simp; omega
  have hI0 : (0 : Int) ≤ (i0 : Int) := by omega
  have hIJ : (i0 : Int) < (L : Int) := by omega
  subst e1
  clear hPe hPo hps hp0 hL
  cases hn : nmd p0.t with
  | none =>
    have hd : dcd p0.t = (0, 0) := by unfold dcd; rw [hn]
    have HRE : Hid (RES = .error (101, n, p0.col)) := by show _ = _; rw [← hRES, insR, hn, hpl]
    rw [hd] at hC
    have hK := kindsOf_zero w
    generalize kdS 0 = z at *
    generalize p0.col = pc at *
    generalize p0.t = tx at *
    clear hRES hn hd hpl hp4 hpz
    dsimp only [lineC, Tryz.f14]
    go_wp2_with (first | (go_at_call 25; refine hC.mono ?_; rintro e w4 ⟨rfl, hww⟩; have hw2 := hww.symm; clear hww; subst hw2) | (go_at_call 26; refine hK.mono ?_; rintro e w4 ⟨rfl, hww⟩; have hw2 := hww.symm; clear hww; subst hw2) | (refine wpList_store_cl rfl 30 _ _ rfl rb 0 3 _ rfl rfl rfl hf (by show 3 ≤ 3; decide) iFr (all_oneCell_toArray (by simp [Value.oneCell'])) ?_; intro w5 hc5 k5 hsz5; clear hsz5; have y0 := hc5.c 0 _ rfl; have y1 := hc5.c 1 _ rfl; have y2 := hc5.c 2 _ rfl))
    (try simp only [Exit.inBlock, Exit.then])
    refine bodyPost_ret (v := .agg #[.int .i64 101, .int .i64 n, .int .i64 pc]) (by rw [results_cell1 rfl]; go_simp) rfl (HE.out (101, n, pc) _ HRE.out ?_)
    exact HK.trans' k5 (fun _ _ e => e) (fun i hi e => by have e : i = rb := e; omega)
  | some q =>
    obtain ⟨c, o, hc, rfl⟩ := nmd_form hpz hn
    have hd : dcd p0.t = ((c : Int), o) := by unfold dcd; rw [hn]
    rw [hd] at hC
    have hK := kindsOf_any w (c : Int) (by omega)
    have b0 : ((c : Int) == 0) = false := by simp; omega
    have r0 := hS.y.c.c 0 _ rfl
    obtain ⟨ac, capc, rfl⟩ := slice_of_owns hS.y.o
    by_cases h64 : qs.length = 64
    · have HRE : Hid (RES = .error (106, n, p0.col)) := by show _ = _; rw [← hRES, insR, hn, hpl]; simp only [if_pos h64]
      have b1 : ((qs.length : Int) == 64) = true := by simp; omega
      generalize p0.col = pc at *
      clear hRES hn hd hpl hp4 hpz
      dsimp only [lineC, Tryz.f14]
      go_wp2_with (first | (go_at_call 25; refine hC.mono ?_; rintro e w4 ⟨rfl, hww⟩; have hw2 := hww.symm; clear hww; subst hw2) | (go_at_call 26; refine hK.mono ?_; rintro e w4 ⟨rfl, hww⟩; have hw2 := hww.symm; clear hww; subst hw2) | (refine wpList_store_cl rfl 30 _ _ rfl rb 0 3 _ rfl rfl rfl hf (by show 3 ≤ 3; decide) iFr (all_oneCell_toArray (by simp [Value.oneCell'])) ?_; intro w5 hc5 k5 hsz5; clear hsz5; have y0 := hc5.c 0 _ rfl; have y1 := hc5.c 1 _ rfl; have y2 := hc5.c 2 _ rfl))
      (try simp only [Exit.inBlock, Exit.then])
      refine bodyPost_ret (v := .agg #[.int .i64 106, .int .i64 n, .int .i64 pc]) (by rw [results_cell1 rfl]; go_simp) rfl (HE.out (106, n, pc) _ HRE.out ?_)
      exact HK.trans' k5 (fun _ _ e => e) (fun i hi e => by have e : i = rb := e; omega)
    · have b1 : ((qs.length : Int) == 64) = false := by simp; omega
      have HR : Hid (fls { ins0 with code := (c : Int), op := o } (slo c) p0 (ps.drop (i0 + 1)) [] = RES) := by
        show _ = _
        rw [← hRES, insR, hn]
        simp only [if_neg h64]
        rw [slo_c (c := c) (o := o)]
      have m1 := CL.made w [.int .i64 0, .int .i64 0, .bool false, .int .i64 0, .bool false, .int .i64 0, .bool false, .int .i64 0, .int .i64 0, .int .i64 0, .int .i64 0] 59
      have k1 : Keeps (fun _ => False) w (w.alloc (.cells #[.int .i64 0, .int .i64 0, .bool false, .int .i64 0, .bool false, .int .i64 0, .bool false, .int .i64 0, .int .i64 0, .int .i64 0, .int .i64 0] 59)) := (Keeps.refl _ w).alloc _
      have hlR := hS.y.lt
      have hlrb := hf.lt (by show 0 < 3; decide)
      have hlg := hS.lt
      have hown := hS.own_lt
      have hbw := hS.bw
      clear hRES hn hd hpl hp4 hpz
      dsimp only [lineC, Tryz.f14]
      refine wp_seq_k (fun K1 hK1 => ?_)
      have hH1 : Hid _ := hK1
      clear hK1
      go_wp2_with fail
      refine hH1.out _ _ ?_
      refine wp_seq_k (fun K2 hK2 => ?_)
      have hH2 : Hid _ := hK2
      clear hK2
      go_wp2_with (go_at_call 25; refine hC.mono ?_; rintro e w4 ⟨rfl, hww⟩; have hw2 := hww.symm; clear hww; subst hw2)
      refine hH2.out _ _ ?_
      refine wp_seq_k (fun K3 hK3 => ?_)
      have hH3 : Hid _ := hK3
      clear hK3
      go_wp2_with (go_at_call 26; refine hK.mono ?_; rintro e w4 ⟨rfl, hww⟩; have hw2 := hww.symm; clear hww; subst hw2)
      refine hH3.out _ _ ?_
      refine wp_seq_k (fun K4 hK4 => ?_)
      have hH4 : Hid _ := hK4
      clear hK4
      go_wp2_with fail
      refine hH4.out _ _ ?_
      refine wp_seq_k (fun K5 hK5 => ?_)
      have hH5 : Hid _ := hK5
      clear hK5
      go_wp2_with fail
      refine hH5.out _ _ ?_
      refine wp_seq_k (fun K6 hK6 => ?_)
      have hH6 : Hid _ := hK6
      clear hK6
      go_wp2_with (refine wpList_store_cl rfl 59 _ _ rfl w.heap.size 0 11 _ rfl rfl rfl m1 (by show 11 ≤ 11; decide) iRf (all_oneCell_toArray (by simp [Value.oneCell'])) ?_; intro w5 hc5 k5 hsz5; clear hsz5)
      refine hH6.out _ _ ?_
      have K5 : Keeps (fun i => i = w.heap.size) w w5 := (k1.mono (fun _ _ e => e.elim)).trans k5
      have hU5 : CL w5 w.heap.size (Ins.cells { ins0 with code := (c : Int), op := o }) := hc5
      exact line_ops (ib := w.heap.size) (c := c) hc HL.out hl64 Hp0.out HPs.out (hS.keepS K5 (fun i e => Nat.le_of_eq (show i = w.heap.size from e).symm)) hU5 ⟨by omega, by omega, by omega⟩ hown hbw hq hjl HR.out HE.out HO.out
end Go.Proofs.YtchbhmolnoggfaaGreatDoor

