import Derived.Test.YtmnmphkkcabkiaaG08
namespace Go.Proofs.Ytmnmphkkcabkiaa
open Go.RowKit
attribute [local go_sem] Oper.semAt_some run_store_nf run_store_f
structure AD (base : Nat) (w X : World) (B : Nat) (r : Rw) (t : Tv) (sv wv sv1 wv1 : Value) (m : Nat) : Prop where
  ct : CL X B (t.cells sv1 wv1)
  cr : CL X (B + 1) r.cells
  cz : CL X (B + 2) (tv0.cells nilv nilv)
  os : X.ownsRow base 44 9 sv1 t.saws.length (scl t.saws)
  ow : X.ownsRow base 46 4 wv1 t.wrs.length (wcl t.wrs)
  k : Keeps (fun b => sv.ownBlock = some b) w X
  bs : ∀ b, sv1.ownBlock = some b → sv.ownBlock = some b ∨ B + 2 < b
  bw : ∀ b, wv1.ownBlock = some b → wv.ownBlock = some b ∨ B + 2 < b
  ne : ∀ b, sv1.ownBlock = some b → wv1.ownBlock ≠ some b
  ls : t.saws.length ≤ m
  lw : t.wrs.length ≤ m
  sz : B + 2 < X.heap.size
  eb : w.heap.size = B
  lb : ∀ b, (sv.ownBlock = some b ∨ wv.ownBlock = some b) → b < B
  bb : base ≤ B
theorem AD.put {base B m : Nat} {w X : World} {r : Rw} {t t' : Tv} {sv wv sv1 wv1 : Value} (h : AD base w X B r t sv wv sv1 wv1 m) (o : Nat) (v : Value) (ho : o < 11) (e : (t.cells sv1 wv1).set o v = t'.cells sv1 wv1) (es : t'.saws = t.saws) (ew : t'.wrs = t.wrs) : AD base w (X.setCell ⟨B, o, none⟩ v) B r t' sv wv sv1 wv1 m := by
  have kk : Keeps (fun b => b = B) X (X.setCell ⟨B, o, none⟩ v) := (Keeps.refl (fun b => b = B) X).setCell (p := ⟨B, o, none⟩) (fun _ => rfl) _
  have hs1 : ∀ b, sv1.ownBlock = some b → ¬ b = B := fun b e e' => by
    rcases h.bs b e with h1 | h1
    · have := h.lb b (.inl h1); omega
    · omega
  have hw1 : ∀ b, wv1.ownBlock = some b → ¬ b = B := fun b e e' => by
    rcases h.bw b e with h1 | h1
    · have := h.lb b (.inr h1); omega
    · omega
  refine ⟨?_, h.cr.other (p := ⟨B, o, none⟩) (by show B ≠ B + 1; omega) _, h.cz.other (p := ⟨B, o, none⟩) (by show B ≠ B + 2; omega) _, ?_, ?_, ?_, h.bs, h.bw, h.ne, ?_, ?_, by simpa using h.sz, h.eb, h.lb, h.bb⟩
  · rw [← e]
    exact h.ct.set (by show o < 11; exact ho) _
  · rw [es]; exact kk.owns h.os (fun b e => hs1 b e)
  · rw [ew]; exact kk.owns h.ow (fun b e => hw1 b e)
  · exact h.k.setCell (p := ⟨B, o, none⟩) (fun hlt => absurd hlt (by show ¬ B < _; rw [h.eb]; omega)) _
  · rw [es]; exact h.ls
  · rw [ew]; exact h.lw
def addT5 (f : Func) : Code := match f.body with | some (.seq _ (.seq _ (.seq _ (.seq _ (.seq _ t))))) => t | _ => .skip
def addT4 (f : Func) : Code := match f.body with | some (.seq _ (.seq _ (.seq _ (.seq _ t)))) => t | _ => .skip
def addT3 (f : Func) : Code := match f.body with | some (.seq _ (.seq _ (.seq _ t))) => t | _ => .skip
def addT2 (f : Func) : Code := match f.body with | some (.seq _ (.seq _ t)) => t | _ => .skip
def addT1 (f : Func) : Code := match f.body with | some (.seq _ t) => t | _ => .skip
theorem AD.keep {base B m : Nat} {w X X' : World} {r : Rw} {t : Tv} {sv wv sv1 wv1 : Value} (h : AD base w X B r t sv wv sv1 wv1 m) (kk : Keeps (fun _ => False) X X') : AD base w X' B r t sv wv sv1 wv1 m :=
  ⟨h.ct.keep (by show 0 < 11; decide) kk (fun e => e), h.cr.keep (by show 0 < 26; decide) kk (fun e => e), h.cz.keep (by show 0 < 11; decide) kk (fun e => e), kk.owns h.os (fun _ _ e => e), kk.owns h.ow (fun _ _ e => e), h.k.trans' kk (fun _ _ e => e) (fun _ _ e => e.elim), h.bs, h.bw, h.ne, h.ls, h.lw, Nat.lt_of_lt_of_le h.sz kk.size, h.eb, h.lb, h.bb⟩
structure AF (base : Nat) (w X : World) (t : Tv) (sv wv sv1 wv1 : Value) : Prop where
  os : X.ownsRow base 44 9 sv1 t.saws.length (scl t.saws)
  ow : X.ownsRow base 46 4 wv1 t.wrs.length (wcl t.wrs)
  k : Keeps (fun b => sv.ownBlock = some b) w X
  bs : ∀ b, sv1.ownBlock = some b → sv.ownBlock = some b ∨ w.heap.size ≤ b
  bw : ∀ b, wv1.ownBlock = some b → wv.ownBlock = some b ∨ w.heap.size ≤ b
  ne : ∀ b, sv1.ownBlock = some b → wv1.ownBlock ≠ some b
theorem AD.fin {base B m : Nat} {w X X' : World} {r : Rw} {t : Tv} {sv wv sv1 wv1 : Value} (h : AD base w X B r t sv wv sv1 wv1 m) (kk : Keeps (fun b => b = B + 2) X X') : AF base w X' t sv wv sv1 wv1 := by
  refine ⟨kk.owns h.os (fun b e e' => ?_), kk.owns h.ow (fun b e e' => ?_), h.k.trans' kk (fun _ _ e => e) (fun b hb e => ?_), fun b e => (h.bs b e).imp id (fun e => by rw [h.eb]; omega), fun b e => (h.bw b e).imp id (fun e => by rw [h.eb]; omega), h.ne⟩
  · have e' : b = B + 2 := e'
    rcases h.bs b e with h1 | h1
    · have := h.lb b (.inl h1); omega
    · omega
  · have e' : b = B + 2 := e'
    rcases h.bw b e with h1 | h1
    · have := h.lb b (.inr h1); omega
    · omega
  · have e : b = B + 2 := e
    rw [h.eb] at hb
    omega
theorem AD.putW {base B m : Nat} {w X : World} {r : Rw} {t : Tv} {sv wv sv1 wv1 v : Value} {l : List Wo} (h : AD base w X B r t sv wv sv1 wv1 m) (ho : X.ownsRow base 46 4 v l.length (wcl l)) (hb : ∀ b, v.ownBlock = some b → B + 2 < b ∧ sv1.ownBlock ≠ some b) (hl : l.length ≤ m + 1) : AD base w (X.setCell ⟨B, 10, none⟩ v) B r { t with wrs := l } sv wv sv1 v (m + 1) := by
  have kk : Keeps (fun b => b = B) X (X.setCell ⟨B, 10, none⟩ v) := (Keeps.refl (fun b => b = B) X).setCell (p := ⟨B, 10, none⟩) (fun _ => rfl) _
  have hs1 : ∀ b, sv1.ownBlock = some b → ¬ b = B := fun b e e' => by
    rcases h.bs b e with h1 | h1
    · have := h.lb b (.inl h1); omega
    · omega
  refine ⟨?_, h.cr.other (p := ⟨B, 10, none⟩) (by show B ≠ B + 1; omega) _, h.cz.other (p := ⟨B, 10, none⟩) (by show B ≠ B + 2; omega) _, kk.owns h.os (fun b e => hs1 b e), kk.owns ho (fun b e e' => by have := (hb b e).1; have e' : b = B := e'; omega), ?_, h.bs, fun b e => .inr (hb b e).1, fun b e e' => (hb b e').2 e, Nat.le_trans h.ls (by omega), hl, by simpa using h.sz, h.eb, h.lb, h.bb⟩
  · exact h.ct.set (o := 10) (by show 10 < 11; decide) _
  · exact h.k.setCell (p := ⟨B, 10, none⟩) (fun hlt => absurd hlt (by show ¬ B < _; rw [h.eb]; omega)) _
theorem AD.putS {base B m : Nat} {w X X' : World} {r : Rw} {t : Tv} {sv wv sv1 wv1 v : Value} {l : List Sw} (h : AD base w X B r t sv wv sv1 wv1 m) (kx : Keeps (fun b => sv1.ownBlock = some b) X X') (ho : X'.ownsRow base 44 9 v l.length (scl l)) (hb : ∀ b, v.ownBlock = some b → sv1.ownBlock = some b ∨ X.heap.size ≤ b) (hl : l.length ≤ m + 1) : AD base w (X'.setCell ⟨B, 9, none⟩ v) B r { t with saws := l } sv wv v wv1 (m + 1) := by
  have kk : Keeps (fun b => b = B) X' (X'.setCell ⟨B, 9, none⟩ v) := (Keeps.refl (fun b => b = B) X').setCell (p := ⟨B, 9, none⟩) (fun _ => rfl) _
  have hs1 : ∀ b, sv1.ownBlock = some b → ¬ b = B ∧ ¬ b = B + 1 ∧ ¬ b = B + 2 := fun b e => by
    rcases h.bs b e with h1 | h1
    · have := h.lb b (.inl h1); omega
    · omega
  have hw1 : ∀ b, wv1.ownBlock = some b → ¬ b = B := fun b e e' => by
    rcases h.bw b e with h1 | h1
    · have := h.lb b (.inr h1); omega
    · omega
  have hz := h.sz
  have hv : ∀ b, v.ownBlock = some b → ¬ b = B := fun b e e' => by
    rcases hb b e with h1 | h1
    · exact (hs1 b h1).1 e'
    · omega
  refine ⟨?_, (h.cr.keep (by show 0 < 26; decide) kx (fun e => (hs1 _ e).2.1 rfl)).other (p := ⟨B, 9, none⟩) (by show B ≠ B + 1; omega) _, (h.cz.keep (by show 0 < 11; decide) kx (fun e => (hs1 _ e).2.2 rfl)).other (p := ⟨B, 9, none⟩) (by show B ≠ B + 2; omega) _, kk.owns ho (fun b e => hv b e), kk.owns (kx.owns h.ow (fun b e e' => h.ne b e' e)) (fun b e => hw1 b e), ?_, ?_, h.bw, ?_, hl, Nat.le_trans h.lw (by omega), ?_, h.eb, h.lb, h.bb⟩
  · exact (h.ct.keep (by show 0 < 11; decide) kx (fun e => (hs1 _ e).1 rfl)).set (o := 9) (by show 9 < 11; decide) _
  · refine Keeps.setCell ?_ (p := ⟨B, 9, none⟩) (fun hlt => absurd hlt (by show ¬ B < _; rw [h.eb]; omega)) _
    refine h.k.trans' kx (fun _ _ e => e) (fun b hlt e => ?_)
    rcases h.bs b e with h1 | h1
    · exact h1
    · rw [h.eb] at hlt; omega
  · intro b e
    rcases hb b e with h1 | h1
    · exact h.bs b h1
    · exact .inr (by omega)
  · intro b e e'
    rcases hb b e with h1 | h1
    · exact h.ne b h1 e'
    · have := owns_lt' h.ow b e'; omega
  · have := kx.size
    simp
    omega
set_option maxHeartbeats 1000000 in
set_option maxRecDepth 100000 in
theorem add_5 {base B m : Nat} {w X : World} {r : Rw} {t : Tv} {sv wv sv1 wv1 : Value} {R : Ending → World → Prop} {x0 x1 x5 x6 x7 x8 x9 x10 x11 x12 x13 x14 x15 x16 x17 x18 x19 x20 x21 x22 x23 x24 x25 x26 x27 x28 x29 x30 x31 x32 x33 x34 x35 x36 x37 x38 x39 x40 x41 x42 x43 x44 x45 x46 x47 x48 x49 x50 x51 x52 x53 x54 x55 x56 x57 x58 x59 x60 x61 x62 x63 : Value} (h : AD base w X B r t sv wv sv1 wv1 m) (hR : ∀ X2 sv2 wv2, AF base w X2 (t) sv wv sv2 wv2 → R (.returned (.agg ((t).cells sv2 wv2).toArray)) X2) : (addT5 Try.f36).wp Try.prog (bodyPost Try.prog Try.f36 R) { tmps := #[x0, x1, .pointer (some ⟨B, 0, none⟩), .pointer (some ⟨B + 1, 0, none⟩), .pointer (some ⟨B + 2, 0, none⟩), x5, x6, x7, x8, x9, x10, x11, x12, x13, x14, x15, x16, x17, x18, x19, x20, x21, x22, x23, x24, x25, x26, x27, x28, x29, x30, x31, x32, x33, x34, x35, x36, x37, x38, x39, x40, x41, x42, x43, x44, x45, x46, x47, x48, x49, x50, x51, x52, x53, x54, x55, x56, x57, x58, x59, x60, x61, x62, x63], defers := [] } X := by
  have hR1 := run_txB h.ct
  have h9 : sv1.oneCell' = true := by obtain ⟨a, c, rfl, _⟩ := own_slice h.os; rfl
  have h10 : wv1.oneCell' = true := by obtain ⟨a, c, rfl, _⟩ := own_slice h.ow; rfl
  have hA := one_tx t h9 h10
  have hz := h.cz
  have HR : Hid _ := fun X2 (kk : Keeps (fun b => b = B + 2) X X2) => hR X2 sv1 wv1 (h.fin kk)
  clear h hR h9 h10
  dsimp only [addT5, Try.f36]
  go_wp2_with (first | (refine wpList_load_run rfl 42 _ rfl ⟨B, 0, none⟩ rfl _ hR1 ?_; clear hR1) | (refine wpList_store_cl rfl 42 _ _ rfl (B + 2) 0 11 (t.cells sv1 wv1).toArray rfl rfl rfl hz (by show 11 ≤ 11; decide) iTx hA ?_; intro w5 hc5 k5 hsz5; have hI5 : CL w5 (B + 2) (t.cells sv1 wv1) := hc5; have hR2 := run_txB hI5))
  exact bodyPost_ret (v := .agg (t.cells sv1 wv1).toArray) ((results_cell1 (p := 4) (ty := 42) rfl _ _ _).trans hR2) rfl (HR.out w5 k5)
theorem putD_len (l : List Wo) (x : Wo) : (putD l x).length ≤ l.length + 1 := by
  have h := putK_len l x l.length
  unfold putD
  split
  · rename_i hb
    rw [if_pos hb] at h
    omega
  · rename_i hb
    rw [if_neg hb] at h
    rw [List.length_append]
    simp
    omega
set_option maxHeartbeats 1000000 in
set_option maxRecDepth 100000 in
theorem add_4 {base B m : Nat} {w X : World} {r : Rw} {t : Tv} {sv wv sv1 wv1 : Value} {R : Ending → World → Prop} {x0 x1 x5 x6 x7 x8 x9 x10 x11 x12 x13 x14 x15 x16 x17 x18 x19 x20 x21 x22 x23 x24 x25 x26 x27 x28 x29 x30 x31 x32 x33 x34 x35 x36 x37 x38 x39 x40 x41 x42 x43 x44 x45 x46 x47 x48 x49 x50 x51 x52 x53 x54 x55 x56 x57 x58 x59 x60 x61 x62 x63 : Value} (h : AD base w X B r t sv wv sv1 wv1 m) (hm : m ≤ 999000000000) (hR : ∀ X2 sv2 wv2, AF base w X2 (addW t r) sv wv sv2 wv2 → R (.returned (.agg ((addW t r).cells sv2 wv2).toArray)) X2) : (addT4 Try.f36).wp Try.prog (bodyPost Try.prog Try.f36 R) { tmps := #[x0, x1, .pointer (some ⟨B, 0, none⟩), .pointer (some ⟨B + 1, 0, none⟩), .pointer (some ⟨B + 2, 0, none⟩), x5, x6, x7, x8, x9, x10, x11, x12, x13, x14, x15, x16, x17, x18, x19, x20, x21, x22, x23, x24, x25, x26, x27, x28, x29, x30, x31, x32, x33, x34, x35, x36, x37, x38, x39, x40, x41, x42, x43, x44, x45, x46, x47, x48, x49, x50, x51, x52, x53, x54, x55, x56, x57, x58, x59, x60, x61, x62, x63], defers := [] } X := by
  have r7 := h.cr.c 7 _ rfl
  have r21 := h.cr.c 21 _ rfl
  have r22 := h.cr.c 22 _ rfl
  have r23 := h.cr.c 23 _ rfl
  have r24 := h.cr.c 24 _ rfl
  have t10 := h.ct.c 10 _ rfl
  obtain ⟨aw, cw, rfl, hWR, -⟩ := wrl_of h.ow
  have hpu := put_any (cap := cw) hWR (by have := h.lw; omega) (wroD r)
  have HR : Hid _ := hR
  have HA : Hid _ := h
  unfold addW at HR
  clear hR
  dsimp only [addT4, Try.f36]
  refine wp_seq_k (fun KK hKK => ?_)
  have hKH : Hid _ := hKK
  clear hKK
  cases hp : r.puts with
  | false =>
    rw [hp] at r21 HR
    clear hpu
    clear h
    go_wp2_with fail
    refine hKH.out _ _ ?_
    clear hKH KK
    exact add_5 HA.out (fun X2 sv2 wv2 hf => HR.out X2 sv2 wv2 hf)
  | true =>
    rw [hp] at r21 HR
    have h10z := h.ct.z 10 (by show 10 < 11; decide)
    clear h
    unfold wroD at hpu
    simp only at hpu
    go_wp2_with (go_at_call 51; refine hpu.mono ?_; clear hpu; rintro e X1 ⟨v1, rfl, ho1, k1⟩; have hA1 := HA.out.keep k1; have d10 := hA1.ct.c 10 _ rfl; have z10 := hA1.ct.z 10 (by show 10 < 11; decide); obtain ⟨a1, c1, rfl, -⟩ := own_slice ho1; have HO1 : Hid _ := ho1; have HA1 : Hid _ := hA1; clear ho1 hA1)
    refine hKH.out _ _ ?_
    clear hKH KK
    refine add_5 (AD.putW (l := putD t.wrs (wroD r)) HA1.out (owns_low HO1.out (Nat.le_trans HA.out.bb (by have := HA.out.sz; omega))) (fun b e => ?_) ?_) (fun X2 sv2 wv2 hf => HR.out X2 sv2 wv2 hf)
    · have h1 := owns_baseT HO1.out b e
      have h2 := HA.out.sz
      refine ⟨by omega, fun e' => ?_⟩
      have := owns_lt' HA.out.os b e'
      omega
    · have h1 := putD_len t.wrs (wroD r)
      have h2 := HA.out.lw
      omega
theorem uSw : Try.prog.underlying 39 = some (.slice 44) := by kernel_rfl
theorem iSw : (Try.prog.info? 44).map (fun i => (i.zero, i.size, i.bytes)) = some (some (.agg #[.int .i64 0, .int .i64 0, .int .i64 0, .bool false, .bool false, .bool false, .int .i64 0, .int .i64 0, .bool false]), 9, 56) := by kernel_rfl
theorem append_s {W : World} {base k : Nat} {v : Value} {l : List Sw} (hown : W.ownsRow base 44 9 v k (scl l)) (hb : base ≤ W.heap.size) (hk : (k + 1) * 56 ≤ 140737488355328) (x : Sw) :
    ∃ v' w', (Builtin.append_ #[39, 39] 39 #[v, .slice (some ⟨W.heap.size, 0, none⟩) 1 1]).run Try.prog (W.alloc (.cells #[.int .i64 x.step, .int .i64 x.object, .int .i64 x.entry, .bool x.own, .bool x.write, .bool x.rel, .int .i64 x.vN, .int .i64 x.vX, .bool x.vD] 44)) = .ok v' w' ∧ w'.ownsRow base 44 9 v' (k + 1) (scl (l ++ [x])) ∧ Keeps (fun i => v.ownBlock = some i) W w' ∧ (∀ b, v'.ownBlock = some b → v.ownBlock = some b ∨ W.heap.size ≤ b) := by
  obtain ⟨v', w', hr, ho, kk, hb⟩ := append_sz uSw iSw rfl (by decide) hown hb (by decide) hk x.cells rfl (fun u hu => by
    unfold Sw.cells at hu
    simp at hu
    rcases hu with rfl | rfl | rfl | rfl | rfl | rfl | rfl | rfl | rfl <;> rfl)
  refine ⟨v', w', hr, ?_, kk, fun b e => ?_⟩
  · rw [scl_app, scl_one]
    exact ho
  · rcases hb with hb | hb
    · exact .inl (hb ▸ e)
    · rw [hb] at e
      injection e with e
      exact .inr (by omega)
set_option maxHeartbeats 1000000 in
set_option maxRecDepth 100000 in
theorem add_3 {base B m : Nat} {w X : World} {r : Rw} {t : Tv} {sv wv sv1 wv1 : Value} {R : Ending → World → Prop} {x0 x1 x5 x6 x7 x8 x9 x10 x11 x12 x13 x14 x15 x16 x17 x18 x19 x20 x21 x22 x23 x24 x25 x26 x27 x28 x29 x30 x31 x32 x33 x34 x35 x36 x37 x38 x39 x40 x41 x42 x43 x44 x45 x46 x47 x48 x49 x50 x51 x52 x53 x54 x55 x56 x57 x58 x59 x60 x61 x62 x63 : Value} (h : AD base w X B r t sv wv sv1 wv1 m) (hm : m ≤ 990000000000) (hR : ∀ X2 sv2 wv2, AF base w X2 (addW (addS t r) r) sv wv sv2 wv2 → R (.returned (.agg ((addW (addS t r) r).cells sv2 wv2).toArray)) X2) : (addT3 Try.f36).wp Try.prog (bodyPost Try.prog Try.f36 R) { tmps := #[x0, x1, .pointer (some ⟨B, 0, none⟩), .pointer (some ⟨B + 1, 0, none⟩), .pointer (some ⟨B + 2, 0, none⟩), x5, x6, x7, x8, x9, x10, x11, x12, x13, x14, x15, x16, x17, x18, x19, x20, x21, x22, x23, x24, x25, x26, x27, x28, x29, x30, x31, x32, x33, x34, x35, x36, x37, x38, x39, x40, x41, x42, x43, x44, x45, x46, x47, x48, x49, x50, x51, x52, x53, x54, x55, x56, x57, x58, x59, x60, x61, x62, x63], defers := [] } X := by
  have r0 := h.cr.c 0 _ rfl
  have r5 := h.cr.c 5 _ rfl
  have r6 := h.cr.c 6 _ rfl
  have r7 := h.cr.c 7 _ rfl
  have r8 := h.cr.c 8 _ rfl
  have r17 := h.cr.c 17 _ rfl
  have r18 := h.cr.c 18 _ rfl
  have r19 := h.cr.c 19 _ rfl
  have r20 := h.cr.c 20 _ rfl
  have t9 := h.ct.c 9 _ rfl
  obtain ⟨a9, c9, rfl, -⟩ := own_slice h.os
  have HR : Hid _ := hR
  have HA : Hid _ := h
  unfold addS at HR
  clear hR
  dsimp only [addT3, Try.f36]
  refine wp_seq_k (fun KK hKK => ?_)
  have hKH : Hid _ := hKK
  clear hKK
  cases hp : r.told with
  | false =>
    rw [hp] at r17 HR
    clear h
    go_wp2_with fail
    refine hKH.out _ _ ?_
    clear hKH KK
    exact add_4 HA.out (by omega) (fun X2 sv2 wv2 hf => HR.out X2 sv2 wv2 hf)
  | true =>
    rw [hp] at r17 HR
    cases hk3 : (r.kind == 3)
    · have hkb : (r.kind == 3) = false := hk3
      obtain ⟨v1, X1, hr1, ho1, k1, b1⟩ := append_s h.os (Nat.le_trans h.bb (by have := h.sz; omega)) (by have := h.ls; omega) (sawD r)
      obtain ⟨a1, c1, rfl, -⟩ := own_slice ho1
      have hA1 : AD base w (X1.setCell ⟨B, 9, none⟩ (.slice a1 (t.saws.length + 1) c1)) B r { t with saws := t.saws ++ [sawD r] } sv wv (.slice a1 (t.saws.length + 1) c1) wv1 (m + 1) := h.putS k1 (by rw [List.length_append]; exact ho1) b1 (by rw [List.length_append]; have := h.ls; simp; omega)
      have hct1 := h.ct.keep (by show 0 < 11; decide) k1 (fun e => by
        rcases h.bs _ e with h1 | h1
        · have := h.lb _ (.inl h1); omega
        · omega)
      have d9 := hct1.c 9 _ rfl
      have z9 := hct1.z 9 (by show 9 < 11; decide)
      have HA1 : Hid _ := hA1
      have HR1 : Hid _ := hr1
      unfold sawD at hr1
      simp only [hkb, Bool.false_and] at hr1
      clear hA1 hct1 ho1 k1 b1 h HR1
      go_wp2_with (at_builtin; refine wpList_append_t rfl _ _ _ rfl _ _ _ X1 rfl rfl hr1 ?_; clear hr1)
      refine hKH.out _ _ ?_
      clear hKH KK
      exact add_4 HA1.out (by omega) (fun X2 sv2 wv2 hf => HR.out X2 sv2 wv2 hf)
    · have hkb : (r.kind == 3) = true := hk3
      obtain ⟨v1, X1, hr1, ho1, k1, b1⟩ := append_s h.os (Nat.le_trans h.bb (by have := h.sz; omega)) (by have := h.ls; omega) (sawD r)
      obtain ⟨a1, c1, rfl, -⟩ := own_slice ho1
      have hA1 : AD base w (X1.setCell ⟨B, 9, none⟩ (.slice a1 (t.saws.length + 1) c1)) B r { t with saws := t.saws ++ [sawD r] } sv wv (.slice a1 (t.saws.length + 1) c1) wv1 (m + 1) := h.putS k1 (by rw [List.length_append]; exact ho1) b1 (by rw [List.length_append]; have := h.ls; simp; omega)
      have hct1 := h.ct.keep (by show 0 < 11; decide) k1 (fun e => by
        rcases h.bs _ e with h1 | h1
        · have := h.lb _ (.inl h1); omega
        · omega)
      have d9 := hct1.c 9 _ rfl
      have z9 := hct1.z 9 (by show 9 < 11; decide)
      have HA1 : Hid _ := hA1
      have HR1 : Hid _ := hr1
      unfold sawD at hr1
      simp only [hkb, Bool.true_and] at hr1
      clear hA1 hct1 ho1 k1 b1 h HR1
      go_wp2_with (at_builtin; refine wpList_append_t rfl _ _ _ rfl _ _ _ X1 rfl rfl hr1 ?_; clear hr1)
      refine hKH.out _ _ ?_
      clear hKH KK
      exact add_4 HA1.out (by omega) (fun X2 sv2 wv2 hf => HR.out X2 sv2 wv2 hf)
set_option maxHeartbeats 1000000 in
set_option maxRecDepth 100000 in
theorem add_2 {base B m : Nat} {w X : World} {r : Rw} {t : Tv} {sv wv sv1 wv1 : Value} {R : Ending → World → Prop} {x0 x1 x5 x6 x7 x8 x9 x10 x11 x12 x13 x14 x15 x16 x17 x18 x19 x20 x21 x22 x23 x24 x25 x26 x27 x28 x29 x30 x31 x32 x33 x34 x35 x36 x37 x38 x39 x40 x41 x42 x43 x44 x45 x46 x47 x48 x49 x50 x51 x52 x53 x54 x55 x56 x57 x58 x59 x60 x61 x62 x63 : Value} (h : AD base w X B r t sv wv sv1 wv1 m) (hm : m ≤ 990000000000) (hR : ∀ X2 sv2 wv2, AF base w X2 (addW (addS (addE t r) r) r) sv wv sv2 wv2 → R (.returned (.agg ((addW (addS (addE t r) r) r).cells sv2 wv2).toArray)) X2) : (addT2 Try.f36).wp Try.prog (bodyPost Try.prog Try.f36 R) { tmps := #[x0, x1, .pointer (some ⟨B, 0, none⟩), .pointer (some ⟨B + 1, 0, none⟩), .pointer (some ⟨B + 2, 0, none⟩), x5, x6, x7, x8, x9, x10, x11, x12, x13, x14, x15, x16, x17, x18, x19, x20, x21, x22, x23, x24, x25, x26, x27, x28, x29, x30, x31, x32, x33, x34, x35, x36, x37, x38, x39, x40, x41, x42, x43, x44, x45, x46, x47, x48, x49, x50, x51, x52, x53, x54, x55, x56, x57, x58, x59, x60, x61, x62, x63], defers := [] } X := by
  have r0 := h.cr.c 0 _ rfl
  have r25 := h.cr.c 25 _ rfl
  have t7 := h.ct.c 7 _ rfl
  have t8 := h.ct.c 8 _ rfl
  have z7 := h.ct.z 7 (by show 7 < 11; decide)
  have z8 := h.ct.z 8 (by show 8 < 11; decide)
  have hB1 : ¬ B = B + 1 := by omega
  have HR : Hid _ := hR
  have HA : Hid _ := h
  unfold addE at HR
  clear hR h
  dsimp only [addT2, Try.f36]
  refine wp_seq_k (fun KK hKK => ?_)
  have hKH : Hid _ := hKK
  clear hKK
  by_cases hp : r.fin = 0
  · rw [if_pos hp] at HR
    have hb : (r.fin != 0) = false := by simpa using hp
    go_wp2_with fail
    refine hKH.out _ _ ?_
    clear hKH KK
    exact add_3 HA.out hm (fun X2 sv2 wv2 hf => HR.out X2 sv2 wv2 hf)
  · rw [if_neg hp] at HR
    have hb : (r.fin != 0) = true := by simpa using hp
    have A1 := HA.out.put (t' := { t with end_ := r.step }) 7 (.int .i64 r.step) (by decide) rfl rfl rfl
    have A2 := A1.put (t' := { t with end_ := r.step, out := r.fin }) 8 (.int .i64 r.fin) (by decide) rfl rfl rfl
    have HA2 : Hid _ := A2
    clear A1 A2
    go_wp2_with fail
    refine hKH.out _ _ ?_
    clear hKH KK
    exact add_3 HA2.out hm (fun X2 sv2 wv2 hf => HR.out X2 sv2 wv2 hf)
set_option maxHeartbeats 1000000 in
set_option maxRecDepth 100000 in
theorem add_1 {base B m : Nat} {w X : World} {r : Rw} {t : Tv} {sv wv sv1 wv1 : Value} {R : Ending → World → Prop} {x0 x1 x5 x6 x7 x8 x9 x10 x11 x12 x13 x14 x15 x16 x17 x18 x19 x20 x21 x22 x23 x24 x25 x26 x27 x28 x29 x30 x31 x32 x33 x34 x35 x36 x37 x38 x39 x40 x41 x42 x43 x44 x45 x46 x47 x48 x49 x50 x51 x52 x53 x54 x55 x56 x57 x58 x59 x60 x61 x62 x63 : Value} (h : AD base w X B r t sv wv sv1 wv1 m) (hm : m ≤ 990000000000) (hR : ∀ X2 sv2 wv2, AF base w X2 (addD t r) sv wv sv2 wv2 → R (.returned (.agg ((addD t r).cells sv2 wv2).toArray)) X2) : (addT1 Try.f36).wp Try.prog (bodyPost Try.prog Try.f36 R) { tmps := #[x0, x1, .pointer (some ⟨B, 0, none⟩), .pointer (some ⟨B + 1, 0, none⟩), .pointer (some ⟨B + 2, 0, none⟩), x5, x6, x7, x8, x9, x10, x11, x12, x13, x14, x15, x16, x17, x18, x19, x20, x21, x22, x23, x24, x25, x26, x27, x28, x29, x30, x31, x32, x33, x34, x35, x36, x37, x38, x39, x40, x41, x42, x43, x44, x45, x46, x47, x48, x49, x50, x51, x52, x53, x54, x55, x56, x57, x58, x59, x60, x61, x62, x63], defers := [] } X := by
  have r0 := h.cr.c 0 _ rfl
  have r6 := h.cr.c 6 _ rfl
  have t6 := h.ct.c 6 _ rfl
  have z6 := h.ct.z 6 (by show 6 < 11; decide)
  have HR : Hid _ := hR
  have HA : Hid _ := h
  unfold addD addF at HR
  clear hR h
  dsimp only [addT1, Try.f36]
  refine wp_seq_k (fun KK hKK => ?_)
  have hKH : Hid _ := hKK
  clear hKK
  by_cases h1 : t.fnl < 0
  · have b1 : decide (t.fnl < 0) = true := decide_eq_true h1
    by_cases h2 : r.phase = 3
    · rw [if_pos ⟨h1, h2⟩] at HR
      have b2 : (r.phase == 3) = true := by simpa using h2
      have A1 := HA.out.put (t' := { t with fnl := r.step }) 6 (.int .i64 r.step) (by decide) rfl rfl rfl
      have HA2 : Hid _ := A1
      clear A1
      go_wp2_with fail
      refine hKH.out _ _ ?_
      clear hKH KK
      exact add_2 HA2.out hm (fun X2 sv2 wv2 hf => HR.out X2 sv2 wv2 hf)
    · rw [if_neg (fun h => h2 h.2)] at HR
      have b2 : (r.phase == 3) = false := by simpa using h2
      go_wp2_with fail
      refine hKH.out _ _ ?_
      clear hKH KK
      exact add_2 HA.out hm (fun X2 sv2 wv2 hf => HR.out X2 sv2 wv2 hf)
  · have b1 : decide (t.fnl < 0) = false := decide_eq_false h1
    rw [if_neg (fun h => h1 h.1)] at HR
    go_wp2_with fail
    refine hKH.out _ _ ?_
    clear hKH KK
    exact add_2 HA.out hm (fun X2 sv2 wv2 hf => HR.out X2 sv2 wv2 hf)
set_option maxHeartbeats 1000000 in
set_option maxRecDepth 100000 in
theorem add_any {base m : Nat} {w : World} {t : Tv} {sv wv : Value} (r : Rw) (os : w.ownsRow base 44 9 sv t.saws.length (scl t.saws)) (ow : w.ownsRow base 46 4 wv t.wrs.length (wcl t.wrs)) (hne : ∀ b, sv.ownBlock = some b → wv.ownBlock ≠ some b) (hb : base ≤ w.heap.size) (ls : t.saws.length ≤ m) (lw : t.wrs.length ≤ m) (hm : m ≤ 990000000000) : Calls Try.prog 36 #[.agg (t.cells sv wv).toArray, .agg r.cells.toArray] w fun e w' => ∃ sv' wv', e = .returned (.agg ((addD t r).cells sv' wv').toArray) ∧ AF base w w' (addD t r) sv wv sv' wv' := by
  obtain ⟨X, hX⟩ : ∃ X, X = ((w.alloc (.cells (t.cells sv wv).toArray 42)).alloc (.cells r.cells.toArray 50)).alloc (.cells #[.int .i64 0, .int .i64 0, .int .i64 0, .int .i64 0, .int .i64 0, .int .i64 0, .int .i64 0, .int .i64 0, .int .i64 0, .slice none 0 0, .slice none 0 0] 42) := ⟨_, rfl⟩
  have k1 : Keeps (fun _ => False) w (w.alloc (.cells (t.cells sv wv).toArray 42)) := (Keeps.refl _ w).alloc _
  have kX : Keeps (fun _ => False) w X := by rw [hX]; exact (k1.alloc _).alloc _
  have hA : AD base w X w.heap.size r t sv wv sv wv m := by
    refine ⟨?_, ?_, ?_, kX.owns os (fun _ _ e => e), kX.owns ow (fun _ _ e => e), kX.mono (fun _ _ e => e.elim), fun b e => .inl e, fun b e => .inl e, hne, ls, lw, ?_, rfl, fun b e => ?_, hb⟩
    · rw [hX]
      exact (((CL.made w (t.cells sv wv) 42).alloc (by show 0 < 11; decide) _).alloc (by show 0 < 11; decide) _)
    · rw [hX]
      have := (CL.made (w.alloc (.cells (t.cells sv wv).toArray 42)) r.cells 50).alloc (by show 0 < 26; decide) (.cells #[.int .i64 0, .int .i64 0, .int .i64 0, .int .i64 0, .int .i64 0, .int .i64 0, .int .i64 0, .int .i64 0, .int .i64 0, .slice none 0 0, .slice none 0 0] 42)
      simpa using this
    · rw [hX]
      have := CL.made ((w.alloc (.cells (t.cells sv wv).toArray 42)).alloc (.cells r.cells.toArray 50)) (tv0.cells nilv nilv) 42
      rw [show ((w.alloc (.cells (t.cells sv wv).toArray 42)).alloc (.cells r.cells.toArray 50)).heap.size = w.heap.size + 2 by simp] at this
      exact this
    · rw [hX]; simp
    · rcases e with e | e
      · exact owns_lt' os b e
      · exact owns_lt' ow b e
  have HA : Hid _ := hA
  have HX : Hid (_ = _) := hX
  clear hA hX k1 kX os ow hne hb ls lw
  go_enter Try.func36, Try.ntmps36
  refine wp_seq_k (fun KK hKK => ?_)
  have hKH : Hid _ := hKK
  clear hKK
  go_wp2_with fail
  refine hKH.out _ _ ?_
  clear hKH KK
  rw [← HX.out]
  exact add_1 HA.out hm (fun X2 sv2 wv2 hf => ⟨sv2, wv2, rfl, hf⟩)
end Go.Proofs.Ytmnmphkkcabkiaa

namespace Go.Proofs.Ytmnmphkkcabkiaa
open Go.RowKit
theorem owns_sets {base size n g cap : Nat} {e : TypeId} : ∀ (vs : List Value) (o : Nat) {w : World} {xs : List Value}, w.ownsRow base e size (.slice (some ⟨g, 0, none⟩) n cap) n xs → o + vs.length ≤ xs.length → (w.setCells g o vs).ownsRow base e size (.slice (some ⟨g, 0, none⟩) n cap) n (sets xs o vs)
  | [], o, w, xs, h, _ => by
    have e1 : sets xs o [] = xs := by unfold sets; simp
    rw [e1]
    exact h
  | v :: r, o, w, xs, h, hl => by
    have h1 := (h.stored o v).1
    have h2 := owns_sets r (o + 1) h1 (by simp at hl ⊢; omega)
    have e1 : sets (xs.set o v) (o + 1) r = sets xs o (v :: r) := by
      have ho : o < xs.length := by simp at hl; omega
      unfold sets
      rw [List.drop_set_of_lt (by omega), List.take_add_one, List.take_set_of_le (Nat.le_refl _), List.getElem?_set_self ho]
      simp
      rw [show o + 1 + r.length = o + (r.length + 1) by omega]
    rw [e1] at h2
    exact h2
def gcl (c : Nat → List Value) (n : Nat) : List Value := (List.range n).flatMap c
theorem gcl_succ (c : Nat → List Value) (n : Nat) : gcl c (n + 1) = gcl c n ++ c n := by
  unfold gcl
  rw [List.range_succ, List.flatMap_append]
  simp
theorem gcl_len {c : Nat → List Value} : ∀ {n : Nat}, (∀ i, i < n → (c i).length = 11) → (gcl c n).length = n * 11
  | 0, _ => rfl
  | n + 1, h => by
    rw [gcl_succ, List.length_append, gcl_len (fun i hi => h i (by omega)), h n (by omega)]
    omega
theorem gcl_get {c : Nat → List Value} {i : Nat} : ∀ {n : Nat}, (∀ j, j < n → (c j).length = 11) → i < n → ∀ j u, (c i)[j]? = some u → (gcl c n)[i * 11 + j]? = some u
  | 0, _, h, _, _, _ => by omega
  | n + 1, hc, h, j, u, e => by
    have hj : j < (c i).length := (List.getElem?_eq_some_iff.1 e).1
    rw [hc i h] at hj
    have hl := gcl_len (c := c) (n := n) (fun k hk => hc k (by omega))
    rw [gcl_succ]
    by_cases hk : i = n
    · subst hk
      rw [List.getElem?_append_right (by omega), hl, show i * 11 + j - i * 11 = j by omega]
      exact e
    · rw [List.getElem?_append_left (by omega)]
      exact gcl_get (fun k hk => hc k (by omega)) (by omega) j u e
theorem gcl_congr {c d : Nat → List Value} : ∀ {n : Nat}, (∀ i, i < n → c i = d i) → gcl c n = gcl d n
  | 0, _ => rfl
  | n + 1, h => by rw [gcl_succ, gcl_succ, gcl_congr (fun i hi => h i (by omega)), h n (by omega)]
theorem gcl_sets {c : Nat → List Value} {i : Nat} {v : List Value} (hv : v.length = 11) : ∀ {n : Nat}, (∀ j, j < n → (c j).length = 11) → i < n → sets (gcl c n) (i * 11) v = gcl (fun j => if j = i then v else c j) n
  | 0, _, h => by omega
  | n + 1, hc, h => by
    have hl := gcl_len (c := c) (n := n) (fun k hk => hc k (by omega))
    have hcn := hc n (by omega)
    rw [gcl_succ, gcl_succ]
    by_cases hk : i = n
    · subst hk
      rw [if_pos rfl, gcl_congr (c := fun j => if j = i then v else c j) (d := c) (fun j hj => if_neg (by omega))]
      unfold sets
      rw [List.take_append_of_le_length (by omega), List.take_of_length_le (by omega), List.drop_of_length_le (by rw [List.length_append]; omega), List.append_nil]
    · rw [if_neg (fun e => hk e.symm), ← gcl_sets hv (fun k hk => hc k (by omega)) (by omega)]
      unfold sets
      rw [List.take_append_of_le_length (by omega), List.drop_append_of_le_length (by omega), List.append_assoc, List.append_assoc, List.append_assoc]
theorem tv_len (t : Tv) (sv wv : Value) : (t.cells sv wv).length = 11 := rfl
def tcl (ts : List Tv) (sv wv : Nat → Value) : List Value := gcl (fun i => (ts.getD i tv0).cells (sv i) (wv i)) ts.length
structure TL (base : Nat) (W : World) (v : Value) (ts : List Tv) (sv wv : Nat → Value) (ρ : Nat → Nat) (m : Nat) : Prop where
  o : W.ownsRow base 42 11 v ts.length (tcl ts sv wv)
  s : ∀ i, i < ts.length → W.ownsRow base 44 9 (sv i) (ts.getD i tv0).saws.length (scl (ts.getD i tv0).saws)
  w : ∀ i, i < ts.length → W.ownsRow base 46 4 (wv i) (ts.getD i tv0).wrs.length (wcl (ts.getD i tv0).wrs)
  r0 : ∀ b, v.ownBlock = some b → ρ b = 1
  rs : ∀ i, i < ts.length → ∀ b, (sv i).ownBlock = some b → ρ b = 2 + 2 * i
  rw : ∀ i, i < ts.length → ∀ b, (wv i).ownBlock = some b → ρ b = 3 + 2 * i
  ls : ∀ i, i < ts.length → (ts.getD i tv0).saws.length ≤ m ∧ (ts.getD i tv0).wrs.length ≤ m
  bb : base ≤ W.heap.size
theorem TL.keep {base m : Nat} {W W' : World} {v : Value} {ts : List Tv} {sv wv : Nat → Value} {ρ : Nat → Nat} (h : TL base W v ts sv wv ρ m) (k : Keeps (fun _ => False) W W') : TL base W' v ts sv wv ρ m :=
  ⟨k.owns h.o (fun _ _ e => e), fun i hi => k.owns (h.s i hi) (fun _ _ e => e), fun i hi => k.owns (h.w i hi) (fun _ _ e => e), h.r0, h.rs, h.rw, h.ls, Nat.le_trans h.bb k.size⟩
theorem TL.more {base m m' : Nat} {W : World} {v : Value} {ts : List Tv} {sv wv : Nat → Value} {ρ : Nat → Nat} (h : TL base W v ts sv wv ρ m) (hm : m ≤ m') : TL base W v ts sv wv ρ m' :=
  ⟨h.o, h.s, h.w, h.r0, h.rs, h.rw, fun i hi => ⟨Nat.le_trans (h.ls i hi).1 hm, Nat.le_trans (h.ls i hi).2 hm⟩, h.bb⟩
theorem TL.first (W : World) (sv wv : Nat → Value) (ρ : Nat → Nat) (m : Nat) : TL W.heap.size W (.slice none 0 0) [] sv wv ρ m :=
  ⟨World.ownsRow_nil _ _ _ _, fun i hi => by simp at hi, fun i hi => by simp at hi, (fun b e => by cases e), fun i hi => by simp at hi, fun i hi => by simp at hi, fun i hi => by simp at hi, Nat.le_refl _⟩
theorem uTx : Try.prog.underlying 35 = some (.slice 42) := by kernel_rfl
theorem iTxs : (Try.prog.info? 42).map (fun i => (i.zero, i.size, i.bytes)) = some (some (.agg #[.int .i64 0, .int .i64 0, .int .i64 0, .int .i64 0, .int .i64 0, .int .i64 0, .int .i64 0, .int .i64 0, .int .i64 0, .slice none 0 0, .slice none 0 0]), 11, 120) := by kernel_rfl
theorem getD_app_left {ts : List Tv} {t : Tv} {i : Nat} (h : i < ts.length) : (ts ++ [t]).getD i tv0 = ts.getD i tv0 := by
  rw [List.getD_eq_getElem?_getD, List.getD_eq_getElem?_getD, List.getElem?_append_left h]
theorem getD_app_right (ts : List Tv) (t : Tv) : (ts ++ [t]).getD ts.length tv0 = t := by
  rw [List.getD_eq_getElem?_getD, List.getElem?_append_right (Nat.le_refl _), Nat.sub_self]
  rfl
theorem TL.add {base m : Nat} {W : World} {v : Value} {ts : List Tv} {sv wv : Nat → Value} {ρ : Nat → Nat} (h : TL base W v ts sv wv ρ m) (t : Tv) (hs : t.saws = []) (hw : t.wrs = []) (hk : (ts.length + 1) * 120 ≤ 140737488355328) :
    ∃ v' w', (Builtin.append_ #[35, 35] 35 #[v, .slice (some ⟨W.heap.size, 0, none⟩) 1 1]).run Try.prog (W.alloc (.cells (t.cells nilv nilv).toArray 42)) = .ok v' w' ∧ TL base w' v' (ts ++ [t]) (fun i => if i = ts.length then nilv else sv i) (fun i => if i = ts.length then nilv else wv i) (fun b => if b < W.heap.size then ρ b else 1) m ∧ Keeps (fun i => v.ownBlock = some i) W w' := by
  obtain ⟨v', w', hr, ho, kk, hbl⟩ := append_sz uTx iTxs rfl (by decide) h.o h.bb (by decide) hk (t.cells nilv nilv) rfl (fun u hu => by
    unfold Tv.cells nilv at hu
    simp at hu
    rcases hu with rfl | rfl | rfl | rfl | rfl | rfl | rfl | rfl | rfl | rfl <;> rfl)
  have hlen : (ts ++ [t]).length = ts.length + 1 := by rw [List.length_append]; rfl
  have hv : ∀ b, v'.ownBlock = some b → (v.ownBlock = some b ∨ b = W.heap.size + 1) := fun b e => by
    rcases hbl with hb | hb
    · exact .inl (hb ▸ e)
    · rw [hb] at e; injection e with e; exact .inr e.symm
  refine ⟨v', w', hr, ⟨?_, fun i hi => ?_, fun i hi => ?_, fun b e => ?_, fun i hi b e => ?_, fun i hi b e => ?_, fun i hi => ?_, Nat.le_trans h.bb kk.size⟩, kk⟩
  · unfold tcl
    rw [hlen, gcl_succ, getD_app_right]
    dsimp only
    rw [if_pos rfl, if_pos rfl, gcl_congr (d := fun i => (ts.getD i tv0).cells (sv i) (wv i)) (fun i hi => by rw [getD_app_left hi, if_neg (by omega), if_neg (by omega)])]
    exact ho
  · rw [hlen] at hi
    by_cases e : i = ts.length
    · subst e
      rw [if_pos rfl, getD_app_right, hs]
      exact World.ownsRow_nil _ _ _ _
    · rw [if_neg e, getD_app_left (by omega)]
      exact kk.owns (h.s i (by omega)) (fun b e1 e2 => by have := h.rs i (by omega) b e1; have := h.r0 b e2; omega)
  · rw [hlen] at hi
    by_cases e : i = ts.length
    · subst e
      rw [if_pos rfl, getD_app_right, hw]
      exact World.ownsRow_nil _ _ _ _
    · rw [if_neg e, getD_app_left (by omega)]
      exact kk.owns (h.w i (by omega)) (fun b e1 e2 => by have := h.rw i (by omega) b e1; have := h.r0 b e2; omega)
  · rcases hv b e with h1 | h1
    · rw [if_pos (owns_lt' h.o b h1)]
      exact h.r0 b h1
    · rw [if_neg (by omega)]
  · rw [hlen] at hi
    by_cases e' : i = ts.length
    · subst e'
      rw [if_pos rfl] at e
      cases e
    · rw [if_neg e'] at e
      rw [if_pos (owns_lt' (h.s i (by omega)) b e)]
      exact h.rs i (by omega) b e
  · rw [hlen] at hi
    by_cases e' : i = ts.length
    · subst e'
      rw [if_pos rfl] at e
      cases e
    · rw [if_neg e'] at e
      rw [if_pos (owns_lt' (h.w i (by omega)) b e)]
      exact h.rw i (by omega) b e
  · rw [hlen] at hi
    by_cases e : i = ts.length
    · subst e
      rw [getD_app_right, hs, hw]
      exact ⟨Nat.zero_le _, Nat.zero_le _⟩
    · rw [getD_app_left (by omega)]
      exact h.ls i (by omega)
def fAt (l : List Rw) : Nat → (Nat → Int)
  | 0 => f0 6
  | k + 1 => folP (fAt l k) (l.getD k rw0) (l.getD k rw0).thread.toNat
theorem fst_drop {l : List Rw} (h : fstP l 0 (f0 6) = none) : ∀ k, k ≤ l.length → fstP (l.drop k) k (fAt l k) = none
  | 0, _ => by rw [List.drop_zero]; exact h
  | k + 1, hk => by
    have ih := fst_drop h k (by omega)
    have hd : l.drop k = l.getD k rw0 :: l.drop (k + 1) := by
      rw [List.drop_eq_getElem_cons (by omega), List.getD_eq_getElem?_getD, List.getElem?_eq_getElem (by omega)]; rfl
    rw [hd] at ih
    unfold fstP at ih
    split at ih
    · cases ih
    · exact ih
theorem row_ok {l : List Rw} (h : fstP l 0 (f0 6) = none) {k : Nat} (hk : k < l.length) : (l.getD k rw0).step = (k : Int) ∧ fitP (fAt l k) (l.getD k rw0) (l.getD k rw0).thread.toNat = true := by
  have ih := fst_drop h k (by omega)
  have hd : l.drop k = l.getD k rw0 :: l.drop (k + 1) := by
    rw [List.drop_eq_getElem_cons (by omega), List.getD_eq_getElem?_getD, List.getElem?_eq_getElem (by omega)]; rfl
  rw [hd] at ih
  unfold fstP at ih
  split at ih
  · cases ih
  · rename_i hn
    have h1 : ¬ (l.getD k rw0).step ≠ (k : Int) := fun e => hn (.inl e)
    have h2 : ¬ fitP (fAt l k) (l.getD k rw0) (l.getD k rw0).thread.toNat = false := fun e => hn (.inr e)
    exact ⟨Decidable.of_not_not h1, by simpa using h2⟩
end Go.Proofs.Ytmnmphkkcabkiaa

