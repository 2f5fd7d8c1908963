import Derived.Test.YtmnmphkkcabkiaaG06
namespace Go.Proofs.Ytmnmphkkcabkiaa
open Go.RowKit Go.WideShapes
attribute [local go_sem] Oper.semAt_some run_store_nf run_store_f
theorem uSwS : Try.prog.underlying 39 = some (.slice 44) := by kernel_rfl
theorem wp_buildSw {o : Oper} {a : Act} {w : World} {K : Act → World → Prop} {Q : Exit → Act → World → Prop} (x : Operand) (ho : o.op = .buildSlice 39 1 #[(0, x)]) (cs : Array Value) (hc : cs.size = 9) (hx : a.eval x = .agg cs)
    (h : K (a.put o.dst (.slice (some ⟨w.heap.size, 0, none⟩) 1 1)) (w.alloc (.cells cs 44))) : o.wp Try.prog a w K Q := by
  obtain ⟨i0, hi0, hzz⟩ := Option.map_eq_some_iff.1 iSw
  simp only [Prod.mk.injEq] at hzz
  obtain ⟨hz0, hz1, -⟩ := hzz
  refine wp_buildSlice 39 44 1 _ ho cs i0 _ uSwS hi0 hz0 (by rw [hz1]; decide) (by rw [hz1]; decide) ?_ h
  rw [hz1]
  have e : (#[(0, x)].map fun (i, x) => (i, a.eval x)).toList = ([Value.agg cs].zipIdx 0).map fun x => (x.2, x.1) := by simp [hx]
  have e2 : ([Value.agg cs].flatMap fun v => v.cells.toList).toArray = cs := by simp; rfl
  rw [e, Great.fill_whole (s := 9) (by decide) [Value.agg cs] _ (fun v hv => by simp at hv; subst hv; exact hc) (by simp), e2]
theorem wpAnyH_two' {P : Program} {ops : Array Oper} {Q : Exit → Act → World → Prop} {md : Region.Mode} {S : World → Prop} {fuel : Nat} {listed : Array Bool} {a : Act} {w : World} {o o2 : Oper} (i i2 : Nat) (hr : Region.ready md ops listed = [i, i2]) (hoi : ops[i]? = some o) (hoi2 : ops[i2]? = some o2) (hw : Region.wanted o (yielded ops a.tmps) = true) (hw2 : Region.wanted o2 (yielded ops a.tmps) = true)
    (h : Oper.wp P o a w (fun a' w' => S w' ∧ (S w' → wpAnyH P md ops Q S fuel (listed.setIfInBounds i true) a' w')) Q) (h2 : Oper.wp P o2 a w (fun a' w' => S w' ∧ (S w' → wpAnyH P md ops Q S fuel (listed.setIfInBounds i2 true) a' w')) Q) : wpAnyH P md ops Q S (fuel + 1) listed a w := by
  refine wpAnyH_ready hr (by simp) (AllReadyH.cons hoi (fun K hK => ?_) (AllReadyH.cons hoi2 (fun K hK => ?_) AllReadyH.nil))
  · rw [if_pos hw]
    exact Oper.wp_mono (fun a' w' e => hK.out _ _ e.1 e.2) h
  · rw [if_pos hw2]
    exact Oper.wp_mono (fun a' w' e => hK.out _ _ e.1 e.2) h2
theorem PL.put {base B p wb rb m : Nat} {w X X' : World} {r : Rw} {t t' : Tv} {sv0 sv : Value} {c : Int → Nat} (h : PL base w X B p r t sv0 sv wb rb c m) (kk : Keeps (fun b => b = p) X X') (hc : CL X' p (t'.cells sv nilv ++ [.map (some wb), .map (some rb)])) (es : t'.saws = t.saws) (ew : t'.wrs = t.wrs) : PL base w X' B p r t' sv0 sv wb rb c m := by
  have b1 := h.b1
  refine ⟨h.ro.keep (by show 0 < 26; decide) kk (fun e => by have e : B = p := e; omega), ⟨hc, ?_, ?_, ?_, ?_, h.a.n1, h.a.n2, h.a.n3, h.a.sb, h.a.cm, ?_⟩, h.cc, ?_, ?_, h.b1, h.b2, h.b3, h.eb, h.bs, h.b0, h.bb, Nat.lt_of_lt_of_le h.lt kk.size⟩
  · rw [es]
    exact kk.owns h.a.s (fun b e1 e2 => (h.a.sb b e1).1 e2)
  · rw [ew]
    exact h.a.w.keep kk h.a.n1
  · rw [ew]
    exact h.a.i
  · obtain ⟨n, h1, h2⟩ := h.a.r
    exact ⟨n, h1, h2.keep kk h.a.n2⟩
  · rw [es, ew]
    exact h.a.ls
  · obtain ⟨n, h1, h2⟩ := h.cr
    exact ⟨n, h1, h2.keep kk h.a.n2⟩
  · exact h.k.trans' kk (fun _ _ e => e) (fun b _ e => .inl e)
theorem PL.saw {base B p wb rb m : Nat} {w X X' : World} {r : Rw} {t : Tv} {sv0 sv sv' : Value} {c : Int → Nat} (h : PL base w X B p r t sv0 sv wb rb c m) (kk : Keeps (fun b => b = p ∨ sv.ownBlock = some b) X X') (s : Sw) (hl : t.saws.length ≤ m) (hc : CL X' p (t.cells sv' nilv ++ [.map (some wb), .map (some rb)])) (hs : X'.ownsRow base 44 9 sv' (t.saws.length + 1) (scl (t.saws ++ [s]))) (hb : ∀ b, sv'.ownBlock = some b → sv.ownBlock = some b ∨ X.heap.size ≤ b) : PL base w X' B p r { t with saws := t.saws ++ [s] } sv0 sv' wb rb c m := by
  have b1 := h.b1
  have b2 := h.b2
  have b3 := h.b3
  have lt := h.lt
  have hn : ∀ b, b = p ∨ sv.ownBlock = some b → b ≠ B ∧ b ≠ wb ∧ b ≠ rb := fun b e => by
    rcases e with e | e
    · have := h.a.n1
      have := h.a.n2
      refine ⟨by omega, by omega, by omega⟩
    · exact ⟨h.ne b e, (h.a.sb b e).2⟩
  refine ⟨h.ro.keep (by show 0 < 26; decide) kk (fun e => (hn _ e).1 rfl), ⟨hc, ?_, h.a.w.keep kk (fun e => (hn _ e).2.1 rfl), h.a.i, ?_, h.a.n1, h.a.n2, h.a.n3, fun b e => ?_, h.a.cm, ?_, h.a.ls.2⟩, h.cc, ?_, ?_, h.b1, h.b2, h.b3, h.eb, fun b e => ?_, h.b0, h.bb, Nat.lt_of_lt_of_le h.lt kk.size⟩
  · rw [List.length_append]
    exact hs
  · obtain ⟨n, h1, h2⟩ := h.a.r
    exact ⟨n, h1, h2.keep kk (fun e => (hn _ e).2.2 rfl)⟩
  · rcases hb b e with h1 | h1
    · exact h.a.sb b h1
    · refine ⟨by omega, by omega, by omega⟩
  · rw [List.length_append]
    show t.saws.length + 1 ≤ m + 1
    omega
  · obtain ⟨n, h1, h2⟩ := h.cr
    exact ⟨n, h1, h2.keep kk (fun e => (hn _ e).2.2 rfl)⟩
  · refine h.k.trans' kk (fun _ _ e => e) (fun b hb e => ?_)
    rcases e with e | e
    · exact .inl e
    · rcases h.bs b e with h1 | h1
      · exact .inr (.inr (.inr h1))
      · have := h.eb; omega
  · rcases hb b e with h1 | h1
    · exact h.bs b h1
    · exact .inr (by omega)
set_option maxHeartbeats 1000000 in
set_option maxRecDepth 100000 in
theorem learn_3 {base B p wb rb m : Nat} {w X : World} {r : Rw} {t : Tv} {sv0 sv : Value} {c : Int → Nat} {R : Ending → World → Prop} {x1 x2 x4 x5 x6 x7 x8 x9 x10 x11 x12 x13 x14 x15 x16 x17 x18 x19 x20 x21 x22 x23 x24 x25 x26 x27 x28 x29 x30 x31 x32 x33 x34 x35 x36 x37 x38 x39 x40 x41 x42 x43 x44 x45 x46 x47 x48 x49 x50 x51 x52 x53 x54 x55 x56 x57 x58 x59 x60 x61 x62 x63 x64 x65 x66 x67 x68 x69 x70 x71 x72 x73 x74 x75 x76 : Value} (h : PL base w X B p r t sv0 sv wb rb c m) (ho : I64 r.object) (he : I64 r.entry) (hm : m ≤ 980000000000) (hlw : t.wrs.length ≤ m) (hls : t.saws.length ≤ m) (hR : ∀ X2 sv2, PF base w X2 p (addW (addS t r) r) sv0 sv2 wb rb (relC c r) m → R (.returned (.tuple #[])) X2) : (lrT3 Try.f42).wp Try.prog (bodyPost Try.prog Try.f42 R) { tmps := #[.pointer (some ⟨p, 0, none⟩), x1, x2, .pointer (some ⟨B, 0, none⟩), x4, x5, x6, x7, x8, x9, x10, x11, x12, x13, x14, x15, x16, x17, x18, x19, x20, x21, x22, x23, x24, x25, x26, x27, x28, x29, x30, x31, x32, x33, x34, x35, x36, x37, x38, x39, x40, x41, x42, x43, x44, x45, x46, x47, x48, x49, x50, x51, x52, x53, x54, x55, x56, x57, x58, x59, x60, x61, x62, x63, x64, x65, x66, x67, x68, x69, x70, x71, x72, x73, x74, x75, x76], defers := [] } X := by
  have r17 := h.ro.c 17 _ rfl
  have HR : Hid _ := hR
  unfold addS at HR
  clear hR
  dsimp only [lrT3, Try.f42]
  refine wp_seq_k (fun KK hKK => ?_)
  have hKH : Hid _ := hKK
  clear hKK
  cases hp : r.told with
  | false =>
    rw [hp] at r17 HR
    have HH : Hid _ := h
    clear h
    go_wp2_with fail
    refine hKH.out _ _ ?_
    clear hKH KK
    exact learn_4 HH.out ho he hm hlw (fun X2 sv2 hf => HR.out X2 sv2 hf)
  | true =>
    rw [hp] at r17 HR
    have hso := fun W => sawOf_any W r
    have hb9 := h.ne
    have HH : Hid _ := h
    have xd := h.a.cl.drew.c 9 _ rfl
    clear h
    go_wp2_with fail
    refine wp_region_held_drew (S := fun W => CL W B r.cells) (by kernel_rfl) HH.out.ro.drew (fun hHeld => ?_)
    refine wpAnyH_take (i := 0) (v := ?_) rfl (by kernel_rfl) (by kernel_rfl) (by kernel_rfl) (fun _ _ _ h => h) (Or.inl ⟨by rfl, ?_⟩) (by assumption) ?_
    rotate_left
    · intro wx hSw; clear hSw; go_simp <;> with_reducible rfl
    (try simp only [List.getElem_toArray]); (try simp only [List.getElem_cons_succ]); (try simp only [List.getElem_cons_zero]); (try simp only [Act.put]); (try simp only [List.setIfInBounds_toArray]); (repeat first | simp only [List.set_cons_succ] | simp only [List.set_cons_zero])
    refine wpAnyH_take (i := 1) (v := ?_) rfl (by kernel_rfl) (by kernel_rfl) (by kernel_rfl) (fun _ _ _ h => h) (Or.inl ⟨by rfl, ?_⟩) (by assumption) ?_
    rotate_left
    · intro wx hSw; clear hSw; go_simp <;> with_reducible rfl
    (try simp only [List.getElem_toArray]); (try simp only [List.getElem_cons_succ]); (try simp only [List.getElem_cons_zero]); (try simp only [Act.put]); (try simp only [List.setIfInBounds_toArray]); (repeat first | simp only [List.set_cons_succ] | simp only [List.set_cons_zero])
    refine wpAnyH_take (i := 2) (v := ?_) rfl (by kernel_rfl) (by kernel_rfl) (by kernel_rfl) (fun _ _ _ h => h) (Or.inl ⟨by rfl, ?_⟩) (by assumption) ?_
    rotate_left
    · intro wx hSw; clear hSw; go_simp <;> with_reducible rfl
    (try simp only [List.getElem_toArray]); (try simp only [List.getElem_cons_succ]); (try simp only [List.getElem_cons_zero]); (try simp only [Act.put]); (try simp only [List.setIfInBounds_toArray]); (repeat first | simp only [List.set_cons_succ] | simp only [List.set_cons_zero])
    refine wpAnyH_take (i := 3) (v := ?_) rfl (by kernel_rfl) (by kernel_rfl) (by kernel_rfl) (fun _ _ _ h => h) (Or.inl ⟨by rfl, ?_⟩) (by assumption) ?_
    rotate_left
    · intro wx hSw; clear hSw; go_simp <;> with_reducible rfl
    (try simp only [List.getElem_toArray]); (try simp only [List.getElem_cons_succ]); (try simp only [List.getElem_cons_zero]); (try simp only [Act.put]); (try simp only [List.setIfInBounds_toArray]); (repeat first | simp only [List.set_cons_succ] | simp only [List.set_cons_zero])
    refine wpAnyH_take (i := 4) (v := ?_) rfl (by kernel_rfl) (by kernel_rfl) (by kernel_rfl) (fun _ _ _ h => h) (Or.inl ⟨by rfl, ?_⟩) (by assumption) ?_
    rotate_left
    · intro wx hSw; clear hSw; go_simp <;> with_reducible rfl
    (try simp only [List.getElem_toArray]); (try simp only [List.getElem_cons_succ]); (try simp only [List.getElem_cons_zero]); (try simp only [Act.put]); (try simp only [List.setIfInBounds_toArray]); (repeat first | simp only [List.set_cons_succ] | simp only [List.set_cons_zero])
    refine wpAnyH_take (i := 6) (v := (.agg r.cells.toArray)) rfl (by kernel_rfl) (by kernel_rfl) (by kernel_rfl) (fun _ _ _ h => h) (Or.inl ⟨by rfl, ?_⟩) (by assumption) ?_
    · intro wx hSw; exact takes_load 50 _ rfl ⟨B, 0, none⟩ rfl (run_rw hSw)
    (try simp only [List.getElem_toArray]); (try simp only [List.getElem_cons_succ]); (try simp only [List.getElem_cons_zero]); (try simp only [Act.put]); (try simp only [List.setIfInBounds_toArray]); (repeat first | simp only [List.set_cons_succ] | simp only [List.set_cons_zero])
    refine wpAnyH_two' 5 7 (by kernel_rfl) rfl rfl (by kernel_rfl) (by kernel_rfl) ?_ ?_
    · go_simp
      (try refine ⟨hHeld, fun _ => ?_⟩)
      (try simp only [List.getElem_toArray]); (try simp only [List.getElem_cons_succ]); (try simp only [List.getElem_cons_zero]); (try simp only [Act.put]); (try simp only [List.setIfInBounds_toArray]); (repeat first | simp only [List.set_cons_succ] | simp only [List.set_cons_zero])
      refine wpAnyH_one 7 (by kernel_rfl) rfl rfl ?_
      go_simp
      refine (hso _).mono ?_
      clear hso
      rintro e w7 ⟨rfl, k7⟩
      have k07 := (Keeps.refl (fun _ => False) X).drew.trans k7
      have hS7 : CL w7 B r.cells := hHeld.keep (by show 0 < 26; decide) k7 (fun e => e)
      have hA7 := HH.out.a.cl.keep (by show 0 < 13; decide) k07 (fun e => e)
      have x9 := hA7.c 9 _ rfl
      refine ⟨hS7, fun _ => ?_⟩
      (try simp only [List.getElem_toArray]); (try simp only [List.getElem_cons_succ]); (try simp only [List.getElem_cons_zero]); (try simp only [Act.put]); (try simp only [List.setIfInBounds_toArray]); (repeat first | simp only [List.set_cons_succ] | simp only [List.set_cons_zero])
      refine wpAnyH_one 8 (by kernel_rfl) rfl rfl ?_
      refine wp_buildSw _ rfl _ rfl rfl ?_
      refine ⟨hS7.alloc (by show 0 < 26; decide) _, fun hS8 => ?_⟩
      (try simp only [List.getElem_toArray]); (try simp only [List.getElem_cons_succ]); (try simp only [List.getElem_cons_zero]); (try simp only [Act.put]); (try simp only [List.setIfInBounds_toArray]); (repeat first | simp only [List.set_cons_succ] | simp only [List.set_cons_zero])
      obtain ⟨v1, X1, hr1, ho1, kq, bq⟩ := append_s (k07.owns HH.out.a.s (fun _ _ e => e)) (Nat.le_trans HH.out.bb (by have := HH.out.lt; have := k07.size; omega)) (by omega) (sawD r)
      have hz07 := k07.size
      have hlt := HH.out.lt
      have b1 := HH.out.b1
      have hS9 : CL X1 B r.cells := hS7.keep (by show 0 < 26; decide) kq (fun e => hb9 _ e rfl)
      have hA9 := hA7.keep (by show 0 < 13; decide) kq (fun e => (HH.out.a.sb _ e).1 rfl)
      refine wpAnyH_one 9 (by kernel_rfl) rfl rfl ?_
      refine wp_append_t _ _ 39 rfl _ _ _ X1 rfl rfl hr1 ?_
      refine ⟨hS9, fun _ => ?_⟩
      (try simp only [List.getElem_toArray]); (try simp only [List.getElem_cons_succ]); (try simp only [List.getElem_cons_zero]); (try simp only [Act.put]); (try simp only [List.setIfInBounds_toArray]); (repeat first | simp only [List.set_cons_succ] | simp only [List.set_cons_zero])
      refine wpAnyH_take (i := 10) (v := ?_) rfl (by kernel_rfl) (by kernel_rfl) (by kernel_rfl) (fun _ _ _ h => h) (Or.inl ⟨by rfl, ?_⟩) (by assumption) ?_
      rotate_left
      · intro wx hSw; clear hSw; go_simp <;> with_reducible rfl
      (try simp only [List.getElem_toArray]); (try simp only [List.getElem_cons_succ]); (try simp only [List.getElem_cons_zero]); (try simp only [Act.put]); (try simp only [List.setIfInBounds_toArray]); (repeat first | simp only [List.set_cons_succ] | simp only [List.set_cons_zero])
      refine wpAnyH_take (i := 11) (v := ?_) rfl (by kernel_rfl) (by kernel_rfl) (by kernel_rfl) (fun _ _ _ h => h) (Or.inl ⟨by rfl, ?_⟩) (by assumption) ?_
      rotate_left
      · intro wx hSw; clear hSw; go_simp <;> with_reducible rfl
      (try simp only [List.getElem_toArray]); (try simp only [List.getElem_cons_succ]); (try simp only [List.getElem_cons_zero]); (try simp only [Act.put]); (try simp only [List.setIfInBounds_toArray]); (repeat first | simp only [List.set_cons_succ] | simp only [List.set_cons_zero])
      refine wpAnyH_take (i := 12) (v := ?_) rfl (by kernel_rfl) (by kernel_rfl) (by kernel_rfl) (fun _ _ _ h => h) (Or.inl ⟨by rfl, ?_⟩) (by assumption) ?_
      rotate_left
      · intro wx hSw; clear hSw; go_simp <;> with_reducible rfl
      (try simp only [List.getElem_toArray]); (try simp only [List.getElem_cons_succ]); (try simp only [List.getElem_cons_zero]); (try simp only [Act.put]); (try simp only [List.setIfInBounds_toArray]); (repeat first | simp only [List.set_cons_succ] | simp only [List.set_cons_zero])
      have hc9 := hA9.set (o := 9) (by show 9 < 13; decide) v1
      have y9 := hA9.c 9 _ rfl
      have z9 := hA9.z 9 (by show 9 < 13; decide)
      have kp : Keeps (fun b => b = p) X1 (X1.setCell ⟨p, 9, none⟩ v1) := (Keeps.refl (fun b => b = p) X1).setCell (p := ⟨p, 9, none⟩) (fun _ => rfl) _
      have hvb : ∀ b, v1.ownBlock = some b → b ≠ p := fun b e e' => by
        rcases bq b e with h1 | h1
        · exact (HH.out.a.sb b h1).1 e'
        · omega
      have hL : PL base w (X1.setCell ⟨p, 9, none⟩ v1) B p r { t with saws := t.saws ++ [sawD r] } sv0 v1 wb rb c m := by
        refine HH.out.saw (k07.trans' kq (fun _ _ e => e.elim) (fun b _ e => .inr e) |>.trans' kp (fun _ _ e => e) (fun b _ e => .inl e)) (sawD r) hls hc9 (kp.owns ho1 (fun b e => hvb b e)) (fun b e => ?_)
        rcases bq b e with h1 | h1
        · exact .inl h1
        · exact .inr (by omega)
      have HL : Hid _ := hL
      obtain ⟨a1, c1, rfl, -⟩ := own_slice ho1
      have hSx := hS9.other (p := ⟨p, 9, none⟩) (by show p ≠ B; omega) (.slice a1 (t.saws.length + 1) c1)
      clear hr1 ho1 bq hL hc9 kp hvb
      refine wpAnyH_one 13 (by kernel_rfl) rfl rfl ?_
      go_simp
      (try refine ⟨hSx, fun _ => ?_⟩)
      (try simp only [List.getElem_toArray]); (try simp only [List.getElem_cons_succ]); (try simp only [List.getElem_cons_zero]); (try simp only [Act.put]); (try simp only [List.setIfInBounds_toArray]); (repeat first | simp only [List.set_cons_succ] | simp only [List.set_cons_zero])
      refine wpAnyH_done (by kernel_rfl) ?_ _
      refine hKH.out _ _ ?_
      clear hKH KK
      exact learn_4 HL.out ho he hm hlw (fun X2 sv2 hf => HR.out X2 sv2 hf)
    · go_simp
      refine (hso _).mono ?_
      clear hso
      rintro e w7 ⟨rfl, k7⟩
      have k07 := (Keeps.refl (fun _ => False) X).drew.trans k7
      have hS7 : CL w7 B r.cells := hHeld.keep (by show 0 < 26; decide) k7 (fun e => e)
      have hA7 := HH.out.a.cl.keep (by show 0 < 13; decide) k07 (fun e => e)
      have x9 := hA7.c 9 _ rfl
      refine ⟨hS7, fun _ => ?_⟩
      (try simp only [List.getElem_toArray]); (try simp only [List.getElem_cons_succ]); (try simp only [List.getElem_cons_zero]); (try simp only [Act.put]); (try simp only [List.setIfInBounds_toArray]); (repeat first | simp only [List.set_cons_succ] | simp only [List.set_cons_zero])
      refine wpAnyH_two' 5 8 (by kernel_rfl) rfl rfl (by kernel_rfl) (by kernel_rfl) ?_ ?_
      · go_simp
        (try refine ⟨hS7, fun _ => ?_⟩)
        (try simp only [List.getElem_toArray]); (try simp only [List.getElem_cons_succ]); (try simp only [List.getElem_cons_zero]); (try simp only [Act.put]); (try simp only [List.setIfInBounds_toArray]); (repeat first | simp only [List.set_cons_succ] | simp only [List.set_cons_zero])
        refine wpAnyH_one 8 (by kernel_rfl) rfl rfl ?_
        refine wp_buildSw _ rfl _ rfl rfl ?_
        refine ⟨hS7.alloc (by show 0 < 26; decide) _, fun hS8 => ?_⟩
        (try simp only [List.getElem_toArray]); (try simp only [List.getElem_cons_succ]); (try simp only [List.getElem_cons_zero]); (try simp only [Act.put]); (try simp only [List.setIfInBounds_toArray]); (repeat first | simp only [List.set_cons_succ] | simp only [List.set_cons_zero])
        obtain ⟨v1, X1, hr1, ho1, kq, bq⟩ := append_s (k07.owns HH.out.a.s (fun _ _ e => e)) (Nat.le_trans HH.out.bb (by have := HH.out.lt; have := k07.size; omega)) (by omega) (sawD r)
        have hz07 := k07.size
        have hlt := HH.out.lt
        have b1 := HH.out.b1
        have hS9 : CL X1 B r.cells := hS7.keep (by show 0 < 26; decide) kq (fun e => hb9 _ e rfl)
        have hA9 := hA7.keep (by show 0 < 13; decide) kq (fun e => (HH.out.a.sb _ e).1 rfl)
        refine wpAnyH_one 9 (by kernel_rfl) rfl rfl ?_
        refine wp_append_t _ _ 39 rfl _ _ _ X1 rfl rfl hr1 ?_
        refine ⟨hS9, fun _ => ?_⟩
        (try simp only [List.getElem_toArray]); (try simp only [List.getElem_cons_succ]); (try simp only [List.getElem_cons_zero]); (try simp only [Act.put]); (try simp only [List.setIfInBounds_toArray]); (repeat first | simp only [List.set_cons_succ] | simp only [List.set_cons_zero])
        refine wpAnyH_take (i := 10) (v := ?_) rfl (by kernel_rfl) (by kernel_rfl) (by kernel_rfl) (fun _ _ _ h => h) (Or.inl ⟨by rfl, ?_⟩) (by assumption) ?_
        rotate_left
        · intro wx hSw; clear hSw; go_simp <;> with_reducible rfl
        (try simp only [List.getElem_toArray]); (try simp only [List.getElem_cons_succ]); (try simp only [List.getElem_cons_zero]); (try simp only [Act.put]); (try simp only [List.setIfInBounds_toArray]); (repeat first | simp only [List.set_cons_succ] | simp only [List.set_cons_zero])
        refine wpAnyH_take (i := 11) (v := ?_) rfl (by kernel_rfl) (by kernel_rfl) (by kernel_rfl) (fun _ _ _ h => h) (Or.inl ⟨by rfl, ?_⟩) (by assumption) ?_
        rotate_left
        · intro wx hSw; clear hSw; go_simp <;> with_reducible rfl
        (try simp only [List.getElem_toArray]); (try simp only [List.getElem_cons_succ]); (try simp only [List.getElem_cons_zero]); (try simp only [Act.put]); (try simp only [List.setIfInBounds_toArray]); (repeat first | simp only [List.set_cons_succ] | simp only [List.set_cons_zero])
        refine wpAnyH_take (i := 12) (v := ?_) rfl (by kernel_rfl) (by kernel_rfl) (by kernel_rfl) (fun _ _ _ h => h) (Or.inl ⟨by rfl, ?_⟩) (by assumption) ?_
        rotate_left
        · intro wx hSw; clear hSw; go_simp <;> with_reducible rfl
        (try simp only [List.getElem_toArray]); (try simp only [List.getElem_cons_succ]); (try simp only [List.getElem_cons_zero]); (try simp only [Act.put]); (try simp only [List.setIfInBounds_toArray]); (repeat first | simp only [List.set_cons_succ] | simp only [List.set_cons_zero])
        have hc9 := hA9.set (o := 9) (by show 9 < 13; decide) v1
        have y9 := hA9.c 9 _ rfl
        have z9 := hA9.z 9 (by show 9 < 13; decide)
        have kp : Keeps (fun b => b = p) X1 (X1.setCell ⟨p, 9, none⟩ v1) := (Keeps.refl (fun b => b = p) X1).setCell (p := ⟨p, 9, none⟩) (fun _ => rfl) _
        have hvb : ∀ b, v1.ownBlock = some b → b ≠ p := fun b e e' => by
          rcases bq b e with h1 | h1
          · exact (HH.out.a.sb b h1).1 e'
          · omega
        have hL : PL base w (X1.setCell ⟨p, 9, none⟩ v1) B p r { t with saws := t.saws ++ [sawD r] } sv0 v1 wb rb c m := by
          refine HH.out.saw (k07.trans' kq (fun _ _ e => e.elim) (fun b _ e => .inr e) |>.trans' kp (fun _ _ e => e) (fun b _ e => .inl e)) (sawD r) hls hc9 (kp.owns ho1 (fun b e => hvb b e)) (fun b e => ?_)
          rcases bq b e with h1 | h1
          · exact .inl h1
          · exact .inr (by omega)
        have HL : Hid _ := hL
        obtain ⟨a1, c1, rfl, -⟩ := own_slice ho1
        have hSx := hS9.other (p := ⟨p, 9, none⟩) (by show p ≠ B; omega) (.slice a1 (t.saws.length + 1) c1)
        clear hr1 ho1 bq hL hc9 kp hvb
        refine wpAnyH_one 13 (by kernel_rfl) rfl rfl ?_
        go_simp
        (try refine ⟨hSx, fun _ => ?_⟩)
        (try simp only [List.getElem_toArray]); (try simp only [List.getElem_cons_succ]); (try simp only [List.getElem_cons_zero]); (try simp only [Act.put]); (try simp only [List.setIfInBounds_toArray]); (repeat first | simp only [List.set_cons_succ] | simp only [List.set_cons_zero])
        refine wpAnyH_done (by kernel_rfl) ?_ _
        refine hKH.out _ _ ?_
        clear hKH KK
        exact learn_4 HL.out ho he hm hlw (fun X2 sv2 hf => HR.out X2 sv2 hf)
      · refine wp_buildSw _ rfl _ rfl rfl ?_
        refine ⟨hS7.alloc (by show 0 < 26; decide) _, fun hS8 => ?_⟩
        (try simp only [List.getElem_toArray]); (try simp only [List.getElem_cons_succ]); (try simp only [List.getElem_cons_zero]); (try simp only [Act.put]); (try simp only [List.setIfInBounds_toArray]); (repeat first | simp only [List.set_cons_succ] | simp only [List.set_cons_zero])
        have x9a := (hA7.alloc (by show 0 < 13; decide) (.cells (sawD r).cells.toArray 44)).c 9 _ rfl
        refine wpAnyH_one 5 (by kernel_rfl) rfl rfl ?_
        go_simp
        (try refine ⟨hS8, fun _ => ?_⟩)
        (try simp only [List.getElem_toArray]); (try simp only [List.getElem_cons_succ]); (try simp only [List.getElem_cons_zero]); (try simp only [Act.put]); (try simp only [List.setIfInBounds_toArray]); (repeat first | simp only [List.set_cons_succ] | simp only [List.set_cons_zero])
        obtain ⟨v1, X1, hr1, ho1, kq, bq⟩ := append_s (k07.owns HH.out.a.s (fun _ _ e => e)) (Nat.le_trans HH.out.bb (by have := HH.out.lt; have := k07.size; omega)) (by omega) (sawD r)
        have hz07 := k07.size
        have hlt := HH.out.lt
        have b1 := HH.out.b1
        have hS9 : CL X1 B r.cells := hS7.keep (by show 0 < 26; decide) kq (fun e => hb9 _ e rfl)
        have hA9 := hA7.keep (by show 0 < 13; decide) kq (fun e => (HH.out.a.sb _ e).1 rfl)
        refine wpAnyH_one 9 (by kernel_rfl) rfl rfl ?_
        refine wp_append_t _ _ 39 rfl _ _ _ X1 rfl rfl hr1 ?_
        refine ⟨hS9, fun _ => ?_⟩
        (try simp only [List.getElem_toArray]); (try simp only [List.getElem_cons_succ]); (try simp only [List.getElem_cons_zero]); (try simp only [Act.put]); (try simp only [List.setIfInBounds_toArray]); (repeat first | simp only [List.set_cons_succ] | simp only [List.set_cons_zero])
        refine wpAnyH_take (i := 10) (v := ?_) rfl (by kernel_rfl) (by kernel_rfl) (by kernel_rfl) (fun _ _ _ h => h) (Or.inl ⟨by rfl, ?_⟩) (by assumption) ?_
        rotate_left
        · intro wx hSw; clear hSw; go_simp <;> with_reducible rfl
        (try simp only [List.getElem_toArray]); (try simp only [List.getElem_cons_succ]); (try simp only [List.getElem_cons_zero]); (try simp only [Act.put]); (try simp only [List.setIfInBounds_toArray]); (repeat first | simp only [List.set_cons_succ] | simp only [List.set_cons_zero])
        refine wpAnyH_take (i := 11) (v := ?_) rfl (by kernel_rfl) (by kernel_rfl) (by kernel_rfl) (fun _ _ _ h => h) (Or.inl ⟨by rfl, ?_⟩) (by assumption) ?_
        rotate_left
        · intro wx hSw; clear hSw; go_simp <;> with_reducible rfl
        (try simp only [List.getElem_toArray]); (try simp only [List.getElem_cons_succ]); (try simp only [List.getElem_cons_zero]); (try simp only [Act.put]); (try simp only [List.setIfInBounds_toArray]); (repeat first | simp only [List.set_cons_succ] | simp only [List.set_cons_zero])
        refine wpAnyH_take (i := 12) (v := ?_) rfl (by kernel_rfl) (by kernel_rfl) (by kernel_rfl) (fun _ _ _ h => h) (Or.inl ⟨by rfl, ?_⟩) (by assumption) ?_
        rotate_left
        · intro wx hSw; clear hSw; go_simp <;> with_reducible rfl
        (try simp only [List.getElem_toArray]); (try simp only [List.getElem_cons_succ]); (try simp only [List.getElem_cons_zero]); (try simp only [Act.put]); (try simp only [List.setIfInBounds_toArray]); (repeat first | simp only [List.set_cons_succ] | simp only [List.set_cons_zero])
        have hc9 := hA9.set (o := 9) (by show 9 < 13; decide) v1
        have y9 := hA9.c 9 _ rfl
        have z9 := hA9.z 9 (by show 9 < 13; decide)
        have kp : Keeps (fun b => b = p) X1 (X1.setCell ⟨p, 9, none⟩ v1) := (Keeps.refl (fun b => b = p) X1).setCell (p := ⟨p, 9, none⟩) (fun _ => rfl) _
        have hvb : ∀ b, v1.ownBlock = some b → b ≠ p := fun b e e' => by
          rcases bq b e with h1 | h1
          · exact (HH.out.a.sb b h1).1 e'
          · omega
        have hL : PL base w (X1.setCell ⟨p, 9, none⟩ v1) B p r { t with saws := t.saws ++ [sawD r] } sv0 v1 wb rb c m := by
          refine HH.out.saw (k07.trans' kq (fun _ _ e => e.elim) (fun b _ e => .inr e) |>.trans' kp (fun _ _ e => e) (fun b _ e => .inl e)) (sawD r) hls hc9 (kp.owns ho1 (fun b e => hvb b e)) (fun b e => ?_)
          rcases bq b e with h1 | h1
          · exact .inl h1
          · exact .inr (by omega)
        have HL : Hid _ := hL
        obtain ⟨a1, c1, rfl, -⟩ := own_slice ho1
        have hSx := hS9.other (p := ⟨p, 9, none⟩) (by show p ≠ B; omega) (.slice a1 (t.saws.length + 1) c1)
        clear hr1 ho1 bq hL hc9 kp hvb
        refine wpAnyH_one 13 (by kernel_rfl) rfl rfl ?_
        go_simp
        (try refine ⟨hSx, fun _ => ?_⟩)
        (try simp only [List.getElem_toArray]); (try simp only [List.getElem_cons_succ]); (try simp only [List.getElem_cons_zero]); (try simp only [Act.put]); (try simp only [List.setIfInBounds_toArray]); (repeat first | simp only [List.set_cons_succ] | simp only [List.set_cons_zero])
        refine wpAnyH_done (by kernel_rfl) ?_ _
        refine hKH.out _ _ ?_
        clear hKH KK
        exact learn_4 HL.out ho he hm hlw (fun X2 sv2 hf => HR.out X2 sv2 hf)
end Go.Proofs.Ytmnmphkkcabkiaa

namespace Go.Proofs.Ytmnmphkkcabkiaa
open Go.RowKit Go.WideShapes
attribute [local go_sem] Oper.semAt_some run_store_nf run_store_f
set_option maxHeartbeats 1000000 in
set_option maxRecDepth 100000 in
theorem learn_2 {base B p wb rb m : Nat} {w X : World} {r : Rw} {t : Tv} {sv0 sv : Value} {c : Int → Nat} {R : Ending → World → Prop} {x1 x2 x4 x5 x6 x7 x8 x9 x10 x11 x12 x13 x14 x15 x16 x17 x18 x19 x20 x21 x22 x23 x24 x25 x26 x27 x28 x29 x30 x31 x32 x33 x34 x35 x36 x37 x38 x39 x40 x41 x42 x43 x44 x45 x46 x47 x48 x49 x50 x51 x52 x53 x54 x55 x56 x57 x58 x59 x60 x61 x62 x63 x64 x65 x66 x67 x68 x69 x70 x71 x72 x73 x74 x75 x76 : Value} (h : PL base w X B p r t sv0 sv wb rb c m) (ho : I64 r.object) (he : I64 r.entry) (hm : m ≤ 980000000000) (hlw : t.wrs.length ≤ m) (hls : t.saws.length ≤ m) (hR : ∀ X2 sv2, PF base w X2 p (addW (addS (addE t r) r) r) sv0 sv2 wb rb (relC c r) m → R (.returned (.tuple #[])) X2) : (lrT2 Try.f42).wp Try.prog (bodyPost Try.prog Try.f42 R) { tmps := #[.pointer (some ⟨p, 0, none⟩), x1, x2, .pointer (some ⟨B, 0, none⟩), x4, x5, x6, x7, x8, x9, x10, x11, x12, x13, x14, x15, x16, x17, x18, x19, x20, x21, x22, x23, x24, x25, x26, x27, x28, x29, x30, x31, x32, x33, x34, x35, x36, x37, x38, x39, x40, x41, x42, x43, x44, x45, x46, x47, x48, x49, x50, x51, x52, x53, x54, x55, x56, x57, x58, x59, x60, x61, x62, x63, x64, x65, x66, x67, x68, x69, x70, x71, x72, x73, x74, x75, x76], defers := [] } X := by
  have r0 := h.ro.c 0 _ rfl
  have r25 := h.ro.c 25 _ rfl
  have HR : Hid _ := hR
  unfold addE at HR
  clear hR
  dsimp only [lrT2, Try.f42]
  refine wp_seq_k (fun KK hKK => ?_)
  have hKH : Hid _ := hKK
  clear hKK
  by_cases hp : r.fin = 0
  · have s1 : (r.fin != 0) = false := by simp [hp]
    rw [if_pos hp] at HR
    have HH : Hid _ := h
    clear h hp
    go_wp2_with fail
    refine hKH.out _ _ ?_
    clear hKH KK
    exact learn_3 HH.out ho he hm hlw hls (fun X2 sv2 hf => HR.out X2 sv2 hf)
  · have s1 : (r.fin != 0) = true := by simp [hp]
    rw [if_neg hp] at HR
    have a7 := h.a.cl.c 7 _ rfl
    have a8 := h.a.cl.c 8 _ rfl
    have z7 := h.a.cl.z 7 (by show 7 < 13; decide)
    have z8 := h.a.cl.z 8 (by show 8 < 13; decide)
    have b1 := h.b1
    have hne : ¬ p = B := by omega
    have hne2 : ¬ B = p := by omega
    have hL : PL base w ((X.setCell ⟨p, 7, none⟩ (.int .i64 r.step)).setCell ⟨p, 8, none⟩ (.int .i64 r.fin)).drew B p r { t with end_ := r.step, out := r.fin } sv0 sv wb rb c m := by
      refine h.put ?_ ?_ rfl rfl
      · exact (((Keeps.refl (fun b => b = p) X).setCell (p := ⟨p, 7, none⟩) (fun _ => rfl) _).setCell (p := ⟨p, 8, none⟩) (fun _ => rfl) _).drew
      · exact ((h.a.cl.set (o := 7) (by show 7 < 13; decide) (.int .i64 r.step)).set (o := 8) (by show 8 < 13; decide) (.int .i64 r.fin)).drew
    have HL : Hid _ := hL
    clear h hL hp
    go_wp2_with fail
    go_region
    refine hKH.out _ _ ?_
    clear hKH KK
    exact learn_3 HL.out ho he hm hlw hls (fun X2 sv2 hf => HR.out X2 sv2 hf)
set_option maxHeartbeats 1000000 in
set_option maxRecDepth 100000 in
theorem learn_1 {base B p wb rb m : Nat} {w X : World} {r : Rw} {t : Tv} {sv0 sv : Value} {c : Int → Nat} {R : Ending → World → Prop} {x1 x2 x4 x5 x6 x7 x8 x9 x10 x11 x12 x13 x14 x15 x16 x17 x18 x19 x20 x21 x22 x23 x24 x25 x26 x27 x28 x29 x30 x31 x32 x33 x34 x35 x36 x37 x38 x39 x40 x41 x42 x43 x44 x45 x46 x47 x48 x49 x50 x51 x52 x53 x54 x55 x56 x57 x58 x59 x60 x61 x62 x63 x64 x65 x66 x67 x68 x69 x70 x71 x72 x73 x74 x75 x76 : Value} (h : PL base w X B p r t sv0 sv wb rb c m) (ho : I64 r.object) (he : I64 r.entry) (hm : m ≤ 980000000000) (hlw : t.wrs.length ≤ m) (hls : t.saws.length ≤ m) (hfn : t.fnl = -1 ∨ 0 ≤ t.fnl) (hR : ∀ X2 sv2, PF base w X2 p (addD t r) sv0 sv2 wb rb (relC c r) m → R (.returned (.tuple #[])) X2) : (lrT1 Try.f42).wp Try.prog (bodyPost Try.prog Try.f42 R) { tmps := #[.pointer (some ⟨p, 0, none⟩), x1, x2, .pointer (some ⟨B, 0, none⟩), x4, x5, x6, x7, x8, x9, x10, x11, x12, x13, x14, x15, x16, x17, x18, x19, x20, x21, x22, x23, x24, x25, x26, x27, x28, x29, x30, x31, x32, x33, x34, x35, x36, x37, x38, x39, x40, x41, x42, x43, x44, x45, x46, x47, x48, x49, x50, x51, x52, x53, x54, x55, x56, x57, x58, x59, x60, x61, x62, x63, x64, x65, x66, x67, x68, x69, x70, x71, x72, x73, x74, x75, x76], defers := [] } X := by
  have r0 := h.ro.c 0 _ rfl
  have r6 := h.ro.c 6 _ rfl
  have a6 := h.a.cl.c 6 _ rfl
  have z6 := h.a.cl.z 6 (by show 6 < 13; decide)
  have HR : Hid _ := hR
  unfold addD addF at HR
  clear hR
  dsimp only [lrT1, Try.f42]
  refine wp_seq_k (fun KK hKK => ?_)
  have hKH : Hid _ := hKK
  clear hKK
  by_cases hp : r.phase = 3
  · have s1 : (r.phase == 3) = true := by simp [hp]
    by_cases hq : t.fnl = -1
    · have s2 : (t.fnl == -1) = true := by simp [hq]
      rw [if_pos ⟨by omega, hp⟩] at HR
      have hL : PL base w (X.setCell ⟨p, 6, none⟩ (.int .i64 r.step)) B p r { t with fnl := r.step } sv0 sv wb rb c m := by
        refine h.put ?_ ?_ rfl rfl
        · exact (Keeps.refl (fun b => b = p) X).setCell (p := ⟨p, 6, none⟩) (fun _ => rfl) _
        · exact h.a.cl.set (o := 6) (by show 6 < 13; decide) (.int .i64 r.step)
      have HL : Hid _ := hL
      clear h hL hp hq hfn
      go_wp2_with fail
      refine hKH.out _ _ ?_
      clear hKH KK
      exact learn_2 HL.out ho he hm hlw hls (fun X2 sv2 hf => HR.out X2 sv2 hf)
    · have s2 : (t.fnl == -1) = false := by simp [hq]
      rw [if_neg (fun e => by omega)] at HR
      have HH : Hid _ := h
      clear h hp hq hfn
      go_wp2_with fail
      refine hKH.out _ _ ?_
      clear hKH KK
      exact learn_2 HH.out ho he hm hlw hls (fun X2 sv2 hf => HR.out X2 sv2 hf)
  · have s1 : (r.phase == 3) = false := by simp [hp]
    rw [if_neg (fun e => hp e.2)] at HR
    have HH : Hid _ := h
    clear h hp hfn
    go_wp2_with fail
    refine hKH.out _ _ ?_
    clear hKH KK
    exact learn_2 HH.out ho he hm hlw hls (fun X2 sv2 hf => HR.out X2 sv2 hf)
set_option maxHeartbeats 1000000 in
set_option maxRecDepth 100000 in
theorem learn_any {base p wb rb m : Nat} {w : World} {t : Tv} {sv : Value} {c : Int → Nat} (r : Rw) (h : PA base w p t sv wb rb c m) (hb : base ≤ w.heap.size) (ho : I64 r.object) (he : I64 r.entry) (hm : m ≤ 980000000000) (hfn : t.fnl = -1 ∨ 0 ≤ t.fnl) : Calls Try.prog 42 #[.pointer (some ⟨p, 0, none⟩), .agg r.cells.toArray] w fun e w' => ∃ sv', e = .returned (.tuple #[]) ∧ PF base w w' p (addD t r) sv sv' wb rb (relC c r) m := by
  obtain ⟨w0, e0, k0, -, hz⟩ := rw_box w r
  have hb0 : CL w0 w.heap.size r.cells := by rw [e0]; exact CL.made w r.cells _
  have P1 := h.keep k0 (fun e => e) (fun e => e) (fun e => e) (fun _ _ e => e)
  have hL : PL base w w0 w.heap.size p r t sv sv wb rb c m := by
    obtain ⟨n, h1, h2⟩ := P1.r
    exact ⟨hb0, ⟨P1.cl, P1.s, P1.w, P1.i, ⟨n, by omega, h2⟩, P1.n1, P1.n2, P1.n3, P1.sb, fun k => by have := P1.cm k; omega, by have := P1.ls; omega⟩, P1.cm, ⟨n, h1, h2⟩, k0.mono (fun _ _ e => e.elim), h.cl.lt (by show 0 < 13; decide), h.w.lt, (by obtain ⟨n, _, h2⟩ := h.r; exact h2.lt), rfl, fun b e => .inl e, fun b e => owns_lt' h.s b e, hb, by omega⟩
  have hls := h.ls
  have HL : Hid _ := hL
  clear h hL P1 hb0 k0 hz
  go_enter Try.func42, Try.ntmps42
  refine wp_seq_k (fun KK hKK => ?_)
  have hKH : Hid _ := hKK
  clear hKK
  go_wp2_with fail
  refine hKH.out _ _ ?_
  clear hKH KK
  rw [← e0]
  exact learn_1 HL.out ho he hm hls.2 hls.1 hfn (fun X2 sv2 hf => ⟨sv2, rfl, hf⟩)
end Go.Proofs.Ytmnmphkkcabkiaa

