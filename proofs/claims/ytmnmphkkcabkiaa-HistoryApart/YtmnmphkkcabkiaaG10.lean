import Derived.Test.YtmnmphkkcabkiaaG09
namespace Go.Proofs.Ytmnmphkkcabkiaa
open Go.RowKit
structure VB (w : World) (b n : Nat) (f : Nat → Value) : Prop where
  c : ∀ o, o < n → w.cell? ⟨b, o, none⟩ = some (f o)
  z : ∀ o, o < n → w.frozen? ⟨b, o, none⟩ = false
theorem VB.of {w : World} {b : Nat} {l : List Value} (h : CL w b l) {f : Nat → Value} (hf : ∀ o, o < l.length → l[o]? = some (f o)) : VB w b l.length f := ⟨fun o ho => h.c o _ (hf o ho), h.z⟩
theorem VB.lt {w : World} {b n : Nat} {f : Nat → Value} (h : VB w b n f) (hn : 0 < n) : b < w.heap.size := World.block_lt_of_cell? _ _ (h.c 0 hn)
theorem VB.made (w : World) (n : Nat) (v : Value) (t : TypeId) : VB (w.alloc (.cells (List.replicate n v).toArray t)) w.heap.size n (fun _ => v) := by
  have h := CL.made w (List.replicate n v) t
  have h2 := VB.of h (f := fun _ => v) (fun o ho => by
    rw [List.length_replicate] at ho
    rw [List.getElem?_replicate, if_pos ho])
  rw [List.length_replicate] at h2
  exact h2
def PR (f : Nat → Int) (Q : Nat → Value) (pb : Nat → Nat) : Prop := ∀ th, th < 6 → f (th * 5) ≠ 0 → Q th = .pointer (some ⟨pb (f (th * 5 + 3) - 1).toNat, 0, none⟩)
theorem PR.start (Q : Nat → Value) (pb : Nat → Nat) : PR (f0 6) Q pb := fun th ht h0 => by
  refine absurd ?_ h0
  unfold f0
  rw [if_neg (by omega)]
theorem PR.begin {f : Nat → Int} {Q : Nat → Value} {pb : Nat → Nat} {n p tr : Nat} {r : Rw} (h : PR f Q pb) (hv : VI f n) (hk : r.kind = 1 ∨ r.kind = 2) (hno : r.no = (n : Int) + 1) : PR (folP f r tr) (fun o => if o = tr then .pointer (some ⟨p, 0, none⟩) else Q o) (fun i => if i = n then p else pb i) := fun th ht h0 => by
  have hk0 : r.kind ≠ 0 := by omega
  by_cases e : th = tr
  · subst e
    dsimp only
    rw [if_pos rfl, folP_no hk0, hno, if_pos (by omega)]
  · have e0 := folP_other (f := f) (r := r) (o := 0) hk0 ht e (by omega)
    rw [Nat.add_zero] at e0
    rw [e0] at h0
    have hb := hv.t th ht h0
    dsimp only
    rw [if_neg e, folP_other hk0 ht e (by omega), if_neg (by omega)]
    exact h th ht h0
theorem PR.go {f : Nat → Int} {Q : Nat → Value} {pb : Nat → Nat} {tr : Nat} {r : Rw} (h : PR f Q pb) (hf : fitP f r tr = true) (h1 : r.kind ≠ 1) (h2 : r.kind ≠ 2) : PR (folP f r tr) Q pb := fun th ht h0 => by
  by_cases hk0 : r.kind = 0
  · have e1 : folP f r tr = f := by unfold folP; rw [if_pos hk0]
    rw [e1] at h0 ⊢
    exact h th ht h0
  by_cases e : th = tr
  · subst e
    obtain ⟨hno, hst⟩ := fit_no hf hk0 h1 h2
    rw [folP_no hk0, hno]
    exact h th ht hst
  · have e0 := folP_other (f := f) (r := r) (o := 0) hk0 ht e (by omega)
    rw [Nat.add_zero] at e0
    rw [e0] at h0
    rw [folP_other hk0 ht e (by omega)]
    exact h th ht h0
end Go.Proofs.Ytmnmphkkcabkiaa

namespace Go.Proofs.Ytmnmphkkcabkiaa
open Go.RowKit Go.WideShapes
attribute [local go_sem] Oper.semAt_some run_store_nf run_store_f
theorem VB.keep {w w' : World} {b n : Nat} {f : Nat → Value} (h : VB w b n f) (hn : 0 < n) {S : Nat → Prop} (k : Keeps S w w') (hS : ¬ S b) : VB w' b n f :=
  ⟨fun o ho => k.cell (h.c o ho) hS, fun o ho => (k.frozen (p := ⟨b, o, none⟩) (h.lt hn) hS).trans (h.z o ho)⟩
theorem VB.set {w : World} {b n : Nat} {f : Nat → Value} (h : VB w b n f) {o : Nat} (ho : o < n) (v : Value) : VB (w.setCell ⟨b, o, none⟩ v) b n (fun x => if x = o then v else f x) := by
  refine ⟨fun p hp => ?_, fun p hp => by simp only [World.frozen?_setCell]; exact h.z p hp⟩
  by_cases e : p = o
  · subst e
    rw [if_pos rfl]
    exact World.cell?_setCell_same _ _ _ (h.c p hp)
  · rw [if_neg e, World.cell?_setCell_other _ _ _ _ (by intro e2; injection e2 with _ e3; exact e e3.symm)]
    exact h.c p hp
structure SV (rb qb : Nat) (r : Rw) (Q : Nat → Value) (W : World) : Prop where
  r : CL W rb r.cells
  q : VB W qb 6 Q
set_option maxHeartbeats 1000000 in
set_option maxRecDepth 100000 in
theorem attempts_any {w : World} {a : Option Addr} {cap N : Nat} {l : List Rw} (hl : RSL w a l) (hN : l.length = N) (hN2 : N ≤ 980000000000) (hf : fstP l 0 (f0 6) = none) (hi64 : ∀ k, k < N → I64 (l.getD k rw0).object ∧ I64 (l.getD k rw0).entry) : Calls Try.prog 24 #[.slice a N cap] w fun e w' => ∃ lv pb sv wb rb ρ, e = .returned lv ∧ AT (w.heap.size + 1) w' lv (txK l N).1.length pb (fun i => (txK l N).1.getD i tv0) sv wb rb (cK l N) ρ N ∧ Keeps (fun _ => False) w w' := by
  obtain ⟨X, hX⟩ : ∃ X, X = w.alloc (.cells #[.pointer none, .pointer none, .pointer none, .pointer none, .pointer none, .pointer none] 93) := ⟨_, rfl⟩
  have kX : Keeps (fun _ => False) w X := by rw [hX]; exact (Keeps.refl _ w).alloc _
  have hV0 : VB X w.heap.size 6 (fun _ => .pointer none) := by rw [hX]; exact VB.made w 6 (.pointer none) _
  have zX : X.heap.size = w.heap.size + 1 := by rw [hX]; simp
  have hT0 : AT (w.heap.size + 1) X (.slice none 0 0) (txK l 0).1.length (fun _ => 0) (fun i => (txK l 0).1.getD i tv0) (fun _ => nilv) (fun _ => 0) (fun _ => 0) (cK l 0) (fun _ => 0) 0 := zX ▸ AT.first X _ _ _ _ _ _ _ _
  have HX : Hid (_ = _) := hX
  clear hX zX
  go_enter Try.func24, Try.ntmps24
  go_wp2_with fail
  rw [← HX.out]
  go_loopw [3, 9] (fun lv iv Wr => ∃ (k : Nat) (pb : Nat → Nat) (sv : Nat → Value) (wb rb : Nat → Nat) (ρ : Nat → Nat) (Q : Nat → Value), iv = .int .i64 (k : Int) ∧ k ≤ N ∧ AT (w.heap.size + 1) Wr lv (txK l k).1.length pb (fun i => (txK l k).1.getD i tv0) sv wb rb (cK l k) ρ k ∧ VB Wr w.heap.size 6 Q ∧ PR (fAt l k) Q pb ∧ Keeps (fun _ => False) w Wr) (fun _ iv _ => N - (intOf iv).toNat)
  case atStart => exact ⟨0, _, _, _, _, _, _, rfl, Nat.zero_le _, hT0, hV0, PR.start _ _, kX⟩
  case round =>
    obtain ⟨k, pb, sv, wb, rb, ρ, Q, rfl, hk, hT, hV, hPR, kr⟩ := hrel
    clear hT0 hV0 kX HX
    by_cases hlt : k < N
    · have l1 : decide ((k : Int) < (N : Int)) = true := decide_eq_true (by omega)
      have l2 : (k : Int) < (N : Int) := by omega
      have l4 : decide (k < N) = true := decide_eq_true hlt
      obtain ⟨b, off, rfl, hc⟩ := hl k (by omega)
      have hR := run_rwAt (W := wr) (fun j v e => kr.cell (hc j v e) (fun e => e))
      have hvi := txK_vi hf k (by omega)
      have hfit := (row_ok hf (by omega : k < l.length)).2
      have hro := hvi.row hfit
      have hfnl := fnl_inv hf k (by omega)
      have hstp := stamp_inv hf k (by omega)
      have hi64k := hi64 k hlt
      have HNX : Hid (txK l (k + 1) = stT (txK l k) (l.getD k rw0)) := rfl
      have HFX : Hid (fAt l (k + 1) = folP (fAt l k) (l.getD k rw0) (l.getD k rw0).thread.toNat) := rfl
      have HCX : Hid (∀ i, cK l (k + 1) i = if ofD (l.getD k rw0).kind = true ∧ ((l.getD k rw0).no - 1).toNat = i then relC (cK l k i) (l.getD k rw0) else cK l k i) := fun _ => rfl
      have HCZ : Hid (∀ i, (txK l k).1.length ≤ i → cK l k i = fun _ => 0) := cK_zero hf k (by omega)
      have hle := txK_le l k
      clear hc
      generalize l.getD k rw0 = r at *
      generalize txK l k = s at *
      generalize fAt l k = fk at *
      generalize cK l k = ck at *
      obtain ⟨ts, g⟩ := s
      dsimp only at hT hro hvi hle hfnl HCZ hstp
      obtain ⟨a6, c6, rfl, -⟩ := own_slice hT.o
      have hgb := hT.bb
      have HMT : Hid (AT (w.heap.size + 1) wr (.slice a6 ts.length c6) ts.length pb (fun i => ts.getD i tv0) sv wb rb ck ρ k) := hT
      clear hT
      generalize hM : ts.length = M at *
      obtain ⟨W4, hW4⟩ : ∃ W4, W4 = wr.alloc (.cells #[.int .i64 0, .int .i64 0, .int .i64 0, .int .i64 0, .int .i64 0, .int .i64 0, .int .i64 0, .int .i64 0, .int .i64 0, .int .i64 0, .int .i64 0, .int .i64 0, .int .i64 0, .bool false, .bool false, .bool false, .int .i64 0, .bool false, .int .i64 0, .int .i64 0, .bool false, .bool false, .int .i64 0, .int .i64 0, .bool false, .int .i64 0] 50) := ⟨_, rfl⟩
      have k4 : Keeps (fun _ => False) wr W4 := by rw [hW4]; exact (Keeps.refl _ wr).alloc _
      have hU4 : CL W4 wr.heap.size rw0.cells := by rw [hW4]; exact CL.made wr rw0.cells _
      have hOC := all_oneCell_rw r
      have hne : ¬ w.heap.size = wr.heap.size := fun e => by have := hV.lt (by decide); omega
      have HW4 : Hid (W4 = wr.alloc (.cells #[.int .i64 0, .int .i64 0, .int .i64 0, .int .i64 0, .int .i64 0, .int .i64 0, .int .i64 0, .int .i64 0, .int .i64 0, .int .i64 0, .int .i64 0, .int .i64 0, .int .i64 0, .bool false, .bool false, .bool false, .int .i64 0, .bool false, .int .i64 0, .int .i64 0, .bool false, .bool false, .int .i64 0, .int .i64 0, .bool false, .int .i64 0] 50)) := hW4
      clear hW4
      by_cases hk1 : r.kind = 1
      · have s1 : (r.kind == 1) = true := by simp [hk1]
        have hkd : r.kind = 1 ∨ r.kind = 2 := .inl hk1
        have hth := hro.th (by omega)
        have hno := (hro.b (by omega)).1
        obtain ⟨th, et⟩ : ∃ th : Nat, r.thread = (th : Int) := ⟨r.thread.toNat, by omega⟩
        have ett : r.thread.toNat = th := by omega
        have i1 : (0 : Int) ≤ (th : Int) := by omega
        have i2 : (th : Int) < 6 := by omega
        have i3 : th < 6 := by omega
        have HET : Hid (r.thread = (th : Int)) := et
        have HP2 : Hid (∀ p, PR (fAt l (k + 1)) (fun o => if o = th then .pointer (some ⟨p, 0, none⟩) else Q o) (fun i => if i = M then p else pb i)) := fun p => by
          show PR _ _ _
          rw [HFX.out, ett]
          exact hPR.begin (hM ▸ hvi) (by omega) (by rw [hno])
        have HC2 : Hid (∀ i, i < M + 1 → (if i = M then (fun _ => 0) else ck i) = cK l (k + 1) i) := fun i hi => by
          have e1 : cK l (k + 1) i = ck i := by
            rw [HCX.out]
            exact if_neg (fun e => by rcases hkd with h | h <;> rw [h] at e <;> cases e.1)
          rw [e1]
          by_cases e : i = M
          · rw [if_pos e, HCZ.out i (by omega)]
          · exact if_neg e
        have HN2 : Hid (txK l (k + 1) = (ts ++ [begD r r.seen], up g th r.seen)) := by
          show _ = _
          rw [HNX.out]
          unfold stT
          rw [if_pos hk1, ett]
        clear HNX hro hk1 hkd HCX HFX et ett hth hno hfit hfnl hPR hvi hstp
        go_wp2_with (first | (refine wpList_load_run rfl 50 _ rfl ⟨b, off + k * 26, none⟩ rfl _ hR ?_; clear hR) | (rw [← HW4.out]; clear HW4; refine wpList_store_cl rfl 50 _ _ rfl wr.heap.size 0 26 _ rfl rfl rfl hU4 (by show 26 ≤ 26; decide) iRw hOC ?_; intro w5 hc5 k5 hsz5; clear hsz5; have hI5 : CL w5 wr.heap.size r.cells := hc5; clear hc5; have K45 : Keeps (fun _ => False) wr w5 := k4.trans' k5 (fun _ _ e => e) (fun i hi e => (by have e : i = wr.heap.size := e; omega)); have c5 := hI5.c 5 _ rfl; have hV5 := hV.keep (by decide) K45 (fun e => e)))
        have hbg : Calls Try.prog 40 #[.agg r.cells.toArray, .int .i64 r.seen] w5.drew fun e w' => e = .returned (.pointer (some ⟨w5.heap.size + 4, 0, none⟩)) ∧ PA w5.heap.size w' (w5.heap.size + 4) (begD r r.seen) nilv (w5.heap.size + 2) (w5.heap.size + 3) (fun _ => 0) 0 ∧ Keeps (fun _ => False) w5.drew w' := begin_any w5.drew r r.seen
        obtain ⟨p7, ep7⟩ : ∃ p7, p7 = w5.heap.size + 4 := ⟨_, rfl⟩
        rw [← ep7] at hbg
        have HEP : Hid (p7 = w5.heap.size + 4) := ep7
        clear ep7
        refine wp_region_held_drew (S := fun W => CL W wr.heap.size r.cells) (by kernel_rfl) hI5.drew (fun hHeld => ?_)
        refine wpAnyH_take (i := 0) (v := ?_) rfl (by kernel_rfl) (by kernel_rfl) (by kernel_rfl) (fun _ _ _ h => h) (Or.inl ⟨by rfl, ?_⟩) (by assumption) ?_
        rotate_left
        · intro wx hSw; clear hSw; go_simp <;> with_reducible rfl
        (try simp only [List.getElem_toArray]); (try simp only [List.getElem_cons_succ]); (try simp only [List.getElem_cons_zero]); (try simp only [Act.put]); (try simp only [List.setIfInBounds_toArray]); (repeat first | simp only [List.set_cons_succ] | simp only [List.set_cons_zero])
        refine wpAnyH_take (i := 1) (v := ?_) rfl (by kernel_rfl) (by kernel_rfl) (by kernel_rfl) (fun _ _ _ h => h) (Or.inl ⟨by rfl, ?_⟩) (by assumption) ?_
        rotate_left
        · intro wx hSw; have p1 := hSw.c 1 _ rfl; rw [HET.out] at p1; clear hSw; go_simp <;> with_reducible rfl
        (try simp only [List.getElem_toArray]); (try simp only [List.getElem_cons_succ]); (try simp only [List.getElem_cons_zero]); (try simp only [Act.put]); (try simp only [List.setIfInBounds_toArray]); (repeat first | simp only [List.set_cons_succ] | simp only [List.set_cons_zero])
        refine wpAnyH_take (i := 2) (v := (.agg r.cells.toArray)) rfl (by kernel_rfl) (by kernel_rfl) (by kernel_rfl) (fun _ _ _ h => h) (Or.inl ⟨by rfl, ?_⟩) (by assumption) ?_
        · intro wx hSw; exact takes_load 50 _ rfl ⟨wr.heap.size, 0, none⟩ rfl (run_rw hSw)
        (try simp only [List.getElem_toArray]); (try simp only [List.getElem_cons_succ]); (try simp only [List.getElem_cons_zero]); (try simp only [Act.put]); (try simp only [List.setIfInBounds_toArray]); (repeat first | simp only [List.set_cons_succ] | simp only [List.set_cons_zero])
        refine wpAnyH_take (i := 3) (v := ?_) rfl (by kernel_rfl) (by kernel_rfl) (by kernel_rfl) (fun _ _ _ h => h) (Or.inl ⟨by rfl, ?_⟩) (by assumption) ?_
        rotate_left
        · intro wx hSw; clear hSw; go_simp <;> with_reducible rfl
        (try simp only [List.getElem_toArray]); (try simp only [List.getElem_cons_succ]); (try simp only [List.getElem_cons_zero]); (try simp only [Act.put]); (try simp only [List.setIfInBounds_toArray]); (repeat first | simp only [List.set_cons_succ] | simp only [List.set_cons_zero])
        refine wpAnyH_take (i := 4) (v := ?_) rfl (by kernel_rfl) (by kernel_rfl) (by kernel_rfl) (fun _ _ _ h => h) (Or.inl ⟨by rfl, ?_⟩) (by assumption) ?_
        rotate_left
        · intro wx hSw; have p1 := hSw.c 11 _ rfl; clear hSw; go_simp <;> with_reducible rfl
        (try simp only [List.getElem_toArray]); (try simp only [List.getElem_cons_succ]); (try simp only [List.getElem_cons_zero]); (try simp only [Act.put]); (try simp only [List.setIfInBounds_toArray]); (repeat first | simp only [List.set_cons_succ] | simp only [List.set_cons_zero])
        refine wpAnyH_one 5 (by kernel_rfl) rfl rfl ?_
        go_simp
        refine hbg.mono ?_
        clear hbg
        rintro e w7 ⟨rfl, hp7, k7⟩
        have hS7 : CL w7 wr.heap.size r.cells := hHeld.keep (by show 0 < 26; decide) k7 (fun e => e)
        have hV7 := (hV5.keep (by decide) (Keeps.refl (fun _ => False) w5).drew (fun e => e)).keep (by decide) k7 (fun e => e)
        have x7 := hV7.c th i3
        have z7 := hV7.z th i3
        refine ⟨hS7, fun _ => ?_⟩
        (try simp only [List.getElem_toArray]); (try simp only [List.getElem_cons_succ]); (try simp only [List.getElem_cons_zero]); (try simp only [Act.put]); (try simp only [List.setIfInBounds_toArray]); (repeat first | simp only [List.set_cons_succ] | simp only [List.set_cons_zero])
        refine wpAnyH_take (i := 6) (v := ?_) rfl (by kernel_rfl) (by kernel_rfl) (by kernel_rfl) (fun _ _ _ h => h) (Or.inl ⟨by rfl, ?_⟩) (by assumption) ?_
        rotate_left
        · intro wx hSw; clear hSw; go_simp <;> with_reducible rfl
        (try simp only [List.getElem_toArray]); (try simp only [List.getElem_cons_succ]); (try simp only [List.getElem_cons_zero]); (try simp only [Act.put]); (try simp only [List.setIfInBounds_toArray]); (repeat first | simp only [List.set_cons_succ] | simp only [List.set_cons_zero])
        have hSx := hS7.other (p := ⟨w.heap.size, th, none⟩) (by show w.heap.size ≠ wr.heap.size; exact hne) (.pointer (some ⟨p7, 0, none⟩))
        refine wpAnyH_one 7 (by kernel_rfl) rfl rfl ?_
        go_simp
        (try refine ⟨hSx, fun _ => ?_⟩)
        (try simp only [List.getElem_toArray]); (try simp only [List.getElem_cons_succ]); (try simp only [List.getElem_cons_zero]); (try simp only [Act.put]); (try simp only [List.setIfInBounds_toArray]); (repeat first | simp only [List.set_cons_succ] | simp only [List.set_cons_zero])
        refine wpAnyH_done (by kernel_rfl) ?_ _
        clear x7 z7 hSx
        have ep7 := HEP.out
        obtain ⟨w8, e8⟩ : ∃ w8, w8 = w7.setCell ⟨w.heap.size, th, none⟩ (.pointer (some ⟨p7, 0, none⟩)) := ⟨_, rfl⟩
        have hlr : wr.heap.size < w5.heap.size := hI5.lt (by show 0 < 26; decide)
        have hqw : w.heap.size < wr.heap.size := hV.lt (by decide)
        have k8 : Keeps (fun b => b = w.heap.size) w7 w8 := by rw [e8]; exact (Keeps.refl (fun b => b = w.heap.size) w7).setCell (p := ⟨w.heap.size, th, none⟩) (fun _ => rfl) _
        have hV8 : VB w8 w.heap.size 6 (fun o => if o = th then .pointer (some ⟨p7, 0, none⟩) else Q o) := by rw [e8]; exact hV7.set i3 _
        have hr8 : CL w8 wr.heap.size r.cells := hS7.keep (by show 0 < 26; decide) k8 (fun e => by have e : wr.heap.size = w.heap.size := e; omega)
        have y8 := hV8.c th i3
        rw [if_pos rfl] at y8
        have c1 := hr8.c 1 _ rfl
        rw [HET.out] at c1
        have hp8 := (hp7.keep k8 (fun e => by have e : p7 = w.heap.size := e; omega) (fun e => by have e : w5.heap.size + 2 = w.heap.size := e; omega) (fun e => by have e : w5.heap.size + 3 = w.heap.size := e; omega) (fun b e => by cases e)).more (Nat.zero_le k)
        have k58 : Keeps (fun b => b = w.heap.size) w5.drew w8 := (k7.mono (fun _ _ e => e.elim)).trans' k8 (fun _ _ e => e) (fun _ _ e => e)
        have hT5 := (HMT.out.keepB K45 (fun _ _ _ e => e)).keepB (Keeps.refl (fun _ => False) w5).drew (fun _ _ _ e => e)
        obtain ⟨v', W', hr', hT', kq⟩ := AT.add hT5 k58 (fun i h1 e => by have e : i = w.heap.size := e; omega) hp8 (by show w5.heap.size ≤ _; omega) (by show w5.heap.size ≤ _; omega) (by show w5.heap.size ≤ _; omega) rfl (by omega)
        obtain ⟨a', c', ev, -⟩ := own_slice hT'.o
        subst ev
        have hbq : ∀ i, (Value.slice a6 M c6).ownBlock = some i → w.heap.size + 1 ≤ i := fun i e => owns_baseT HMT.out.o i e
        have hV9 := hV8.keep (by decide) kq (fun e => by have := hbq _ e; omega)
        have K9 : Keeps (fun _ => False) w W' := ((kr.trans K45).trans (Keeps.refl _ w5).drew).trans' k58 (fun _ _ e => e) (fun i hi e => by have e : i = w.heap.size := e; omega) |>.trans' kq (fun _ _ e => e) (fun i hi e => by have := hbq i e; omega)
        have hT10 := (hT'.congr (T' := fun j => (ts ++ [begD r r.seen]).getD j tv0) (c' := cK l (k + 1)) (fun j hj => by
          by_cases e : j = M
          · rw [if_pos e, e, ← hM, getD_app_right]
          · rw [if_neg e, getD_app_left (by omega)]) (fun j hj => HC2.out j hj)).more (Nat.le_succ k)
        rw [← e8]
        clear hp8 hp7 k58 hT5 hT' hbq kq k8 e8 ep7
        go_wp2_with (at_builtin; refine wpList_append_t rfl _ _ _ rfl _ _ _ W' rfl rfl hr' ?_; clear hr')
        go_roundw
        case rel => exact ⟨k + 1, _, _, _, _, _, _, by go_num, by omega, by rw [HN2.out]; dsimp only; rw [List.length_append, hM]; exact hT10, hV9, HP2.out p7, K9⟩
        case measure => simp [intOf]; omega
      by_cases hk2 : r.kind = 2
      · have s1 : (r.kind == 1) = false := by simp [hk1]
        have s2 : (r.kind == 2) = true := by simp [hk2]
        have hkd : r.kind = 1 ∨ r.kind = 2 := .inr hk2
        have hth := hro.th (by omega)
        have hno := (hro.b (by omega)).1
        obtain ⟨th, et⟩ : ∃ th : Nat, r.thread = (th : Int) := ⟨r.thread.toNat, by omega⟩
        have ett : r.thread.toNat = th := by omega
        have i1 : (0 : Int) ≤ (th : Int) := by omega
        have i2 : (th : Int) < 6 := by omega
        have i3 : th < 6 := by omega
        have HET : Hid (r.thread = (th : Int)) := et
        have HP2 : Hid (∀ p, PR (fAt l (k + 1)) (fun o => if o = th then .pointer (some ⟨p, 0, none⟩) else Q o) (fun i => if i = M then p else pb i)) := fun p => by
          show PR _ _ _
          rw [HFX.out, ett]
          exact hPR.begin (hM ▸ hvi) (by omega) (by rw [hno])
        have HC2 : Hid (∀ i, i < M + 1 → (if i = M then (fun _ => 0) else ck i) = cK l (k + 1) i) := fun i hi => by
          have e1 : cK l (k + 1) i = ck i := by
            rw [HCX.out]
            exact if_neg (fun e => by rcases hkd with h | h <;> rw [h] at e <;> cases e.1)
          rw [e1]
          by_cases e : i = M
          · rw [if_pos e, HCZ.out i (by omega)]
          · exact if_neg e
        have HN2 : Hid (txK l (k + 1) = (ts ++ [begD r (g th)], g)) := by
          show _ = _
          rw [HNX.out]
          unfold stT
          rw [if_neg hk1, if_pos hk2, ett]
        have hst : fk (th * 5) ≠ 0 := by
          have h := hfit
          rw [ett] at h
          unfold fitP at h
          rw [if_neg (by omega), if_neg (by omega), if_neg hk1, if_pos hk2] at h
          simp only [Bool.and_eq_true, beq_iff_eq] at h
          rw [h.1.1]
          decide
        have hb := hvi.t th i3 hst
        obtain ⟨i, ei⟩ : ∃ i, (fk (th * 5 + 3) - 1).toNat = i := ⟨_, rfl⟩
        have im : i < M := by omega
        have hQ : Q th = .pointer (some ⟨pb i, 0, none⟩) := by rw [hPR th i3 hst, ei]
        have hsi := hstp th i3 hst
        rw [ei] at hsi
        clear HNX hro hk1 hk2 hkd HCX HFX et ett hth hno hfit hfnl hPR hvi hstp hst hb ei
        go_wp2_with (first | (refine wpList_load_run rfl 50 _ rfl ⟨b, off + k * 26, none⟩ rfl _ hR ?_; clear hR) | (rw [← HW4.out]; clear HW4; refine wpList_store_cl rfl 50 _ _ rfl wr.heap.size 0 26 _ rfl rfl rfl hU4 (by show 26 ≤ 26; decide) iRw hOC ?_; intro w5 hc5 k5 hsz5; clear hsz5; have hI5 : CL w5 wr.heap.size r.cells := hc5; clear hc5; have K45 : Keeps (fun _ => False) wr w5 := k4.trans' k5 (fun _ _ e => e) (fun i hi e => (by have e : i = wr.heap.size := e; omega)); have c5 := hI5.c 5 _ rfl; have hV5 := hV.keep (by decide) K45 (fun e => e)))
        have hbg : Calls Try.prog 40 #[.agg r.cells.toArray, .int .i64 (g th)] w5.drew fun e w' => e = .returned (.pointer (some ⟨w5.heap.size + 4, 0, none⟩)) ∧ PA w5.heap.size w' (w5.heap.size + 4) (begD r (g th)) nilv (w5.heap.size + 2) (w5.heap.size + 3) (fun _ => 0) 0 ∧ Keeps (fun _ => False) w5.drew w' := begin_any w5.drew r (g th)
        obtain ⟨p7, ep7⟩ : ∃ p7, p7 = w5.heap.size + 4 := ⟨_, rfl⟩
        rw [← ep7] at hbg
        have HEP : Hid (p7 = w5.heap.size + 4) := ep7
        clear ep7
        have xq := (hV5.keep (by decide) (Keeps.refl (fun _ => False) w5).drew (fun e => e)).c th i3
        rw [hQ] at xq
        have xs := (((HMT.out.keepB K45 (fun _ _ _ e => e)).keepB (Keeps.refl (fun _ => False) w5).drew (fun _ _ _ e => e)).a i im).cl.c 4 _ rfl
        rw [hsi] at xs
        clear hsi hQ
        refine wp_region_held_drew (S := fun W => CL W wr.heap.size r.cells) (by kernel_rfl) hI5.drew (fun hHeld => ?_)
        refine wpAnyH_take (i := 0) (v := ?_) rfl (by kernel_rfl) (by kernel_rfl) (by kernel_rfl) (fun _ _ _ h => h) (Or.inl ⟨by rfl, ?_⟩) (by assumption) ?_
        rotate_left
        · intro wx hSw; clear hSw; go_simp <;> with_reducible rfl
        (try simp only [List.getElem_toArray]); (try simp only [List.getElem_cons_succ]); (try simp only [List.getElem_cons_zero]); (try simp only [Act.put]); (try simp only [List.setIfInBounds_toArray]); (repeat first | simp only [List.set_cons_succ] | simp only [List.set_cons_zero])
        refine wpAnyH_take (i := 1) (v := ?_) rfl (by kernel_rfl) (by kernel_rfl) (by kernel_rfl) (fun _ _ _ h => h) (Or.inl ⟨by rfl, ?_⟩) (by assumption) ?_
        rotate_left
        · intro wx hSw; have p1 := hSw.c 1 _ rfl; rw [HET.out] at p1; clear hSw; go_simp <;> with_reducible rfl
        (try simp only [List.getElem_toArray]); (try simp only [List.getElem_cons_succ]); (try simp only [List.getElem_cons_zero]); (try simp only [Act.put]); (try simp only [List.setIfInBounds_toArray]); (repeat first | simp only [List.set_cons_succ] | simp only [List.set_cons_zero])
        refine wpAnyH_take (i := 2) (v := (.agg r.cells.toArray)) rfl (by kernel_rfl) (by kernel_rfl) (by kernel_rfl) (fun _ _ _ h => h) (Or.inl ⟨by rfl, ?_⟩) (by assumption) ?_
        · intro wx hSw; exact takes_load 50 _ rfl ⟨wr.heap.size, 0, none⟩ rfl (run_rw hSw)
        (try simp only [List.getElem_toArray]); (try simp only [List.getElem_cons_succ]); (try simp only [List.getElem_cons_zero]); (try simp only [Act.put]); (try simp only [List.setIfInBounds_toArray]); (repeat first | simp only [List.set_cons_succ] | simp only [List.set_cons_zero])
        refine wpAnyH_take (i := 3) (v := ?_) rfl (by kernel_rfl) (by kernel_rfl) (by kernel_rfl) (fun _ _ _ h => h) (Or.inl ⟨by rfl, ?_⟩) (by assumption) ?_
        rotate_left
        · intro wx hSw; clear hSw; go_simp <;> with_reducible rfl
        (try simp only [List.getElem_toArray]); (try simp only [List.getElem_cons_succ]); (try simp only [List.getElem_cons_zero]); (try simp only [Act.put]); (try simp only [List.setIfInBounds_toArray]); (repeat first | simp only [List.set_cons_succ] | simp only [List.set_cons_zero])
        refine wpAnyH_take (i := 4) (v := ?_) rfl (by kernel_rfl) (by kernel_rfl) (by kernel_rfl) (fun _ _ _ h => h) (Or.inl ⟨by rfl, ?_⟩) (by assumption) ?_
        rotate_left
        · intro wx hSw; have p1 := hSw.c 1 _ rfl; rw [HET.out] at p1; clear hSw; go_simp <;> with_reducible rfl
        (try simp only [List.getElem_toArray]); (try simp only [List.getElem_cons_succ]); (try simp only [List.getElem_cons_zero]); (try simp only [Act.put]); (try simp only [List.setIfInBounds_toArray]); (repeat first | simp only [List.set_cons_succ] | simp only [List.set_cons_zero])
        refine wpAnyH_take (i := 5) (v := ?_) rfl (by kernel_rfl) (by kernel_rfl) (by kernel_rfl) (fun _ _ _ h => h) (Or.inl ⟨by rfl, ?_⟩) (by assumption) ?_
        rotate_left
        · intro wx hSw; clear hSw; go_simp <;> with_reducible rfl
        (try simp only [List.getElem_toArray]); (try simp only [List.getElem_cons_succ]); (try simp only [List.getElem_cons_zero]); (try simp only [Act.put]); (try simp only [List.setIfInBounds_toArray]); (repeat first | simp only [List.set_cons_succ] | simp only [List.set_cons_zero])
        refine wpAnyH_one 6 (by kernel_rfl) rfl rfl ?_
        go_simp
        (try refine ⟨hHeld, fun _ => ?_⟩)
        (try simp only [List.getElem_toArray]); (try simp only [List.getElem_cons_succ]); (try simp only [List.getElem_cons_zero]); (try simp only [Act.put]); (try simp only [List.setIfInBounds_toArray]); (repeat first | simp only [List.set_cons_succ] | simp only [List.set_cons_zero])
        refine wpAnyH_take (i := 7) (v := ?_) rfl (by kernel_rfl) (by kernel_rfl) (by kernel_rfl) (fun _ _ _ h => h) (Or.inl ⟨by rfl, ?_⟩) (by assumption) ?_
        rotate_left
        · intro wx hSw; clear hSw; go_simp <;> with_reducible rfl
        (try simp only [List.getElem_toArray]); (try simp only [List.getElem_cons_succ]); (try simp only [List.getElem_cons_zero]); (try simp only [Act.put]); (try simp only [List.setIfInBounds_toArray]); (repeat first | simp only [List.set_cons_succ] | simp only [List.set_cons_zero])
        refine wpAnyH_take (i := 8) (v := ?_) rfl (by kernel_rfl) (by kernel_rfl) (by kernel_rfl) (fun _ _ _ h => h) (Or.inl ⟨by rfl, ?_⟩) (by assumption) ?_
        rotate_left
        · intro wx hSw; clear hSw; go_simp <;> with_reducible rfl
        (try simp only [List.getElem_toArray]); (try simp only [List.getElem_cons_succ]); (try simp only [List.getElem_cons_zero]); (try simp only [Act.put]); (try simp only [List.setIfInBounds_toArray]); (repeat first | simp only [List.set_cons_succ] | simp only [List.set_cons_zero])
        refine wpAnyH_take (i := 9) (v := ?_) rfl (by kernel_rfl) (by kernel_rfl) (by kernel_rfl) (fun _ _ _ h => h) (Or.inl ⟨by rfl, ?_⟩) (by assumption) ?_
        rotate_left
        · intro wx hSw; clear hSw; go_simp <;> with_reducible rfl
        (try simp only [List.getElem_toArray]); (try simp only [List.getElem_cons_succ]); (try simp only [List.getElem_cons_zero]); (try simp only [Act.put]); (try simp only [List.setIfInBounds_toArray]); (repeat first | simp only [List.set_cons_succ] | simp only [List.set_cons_zero])
        refine wpAnyH_one 10 (by kernel_rfl) rfl rfl ?_
        go_simp
        (try refine ⟨hHeld, fun _ => ?_⟩)
        (try simp only [List.getElem_toArray]); (try simp only [List.getElem_cons_succ]); (try simp only [List.getElem_cons_zero]); (try simp only [Act.put]); (try simp only [List.setIfInBounds_toArray]); (repeat first | simp only [List.set_cons_succ] | simp only [List.set_cons_zero])
        refine wpAnyH_one 11 (by kernel_rfl) rfl rfl ?_
        go_simp
        refine hbg.mono ?_
        clear hbg
        rintro e w7 ⟨rfl, hp7, k7⟩
        have hS7 : CL w7 wr.heap.size r.cells := hHeld.keep (by show 0 < 26; decide) k7 (fun e => e)
        have hV7 := (hV5.keep (by decide) (Keeps.refl (fun _ => False) w5).drew (fun e => e)).keep (by decide) k7 (fun e => e)
        have x7 := hV7.c th i3
        have z7 := hV7.z th i3
        refine ⟨hS7, fun _ => ?_⟩
        (try simp only [List.getElem_toArray]); (try simp only [List.getElem_cons_succ]); (try simp only [List.getElem_cons_zero]); (try simp only [Act.put]); (try simp only [List.setIfInBounds_toArray]); (repeat first | simp only [List.set_cons_succ] | simp only [List.set_cons_zero])
        refine wpAnyH_take (i := 12) (v := ?_) rfl (by kernel_rfl) (by kernel_rfl) (by kernel_rfl) (fun _ _ _ h => h) (Or.inl ⟨by rfl, ?_⟩) (by assumption) ?_
        rotate_left
        · intro wx hSw; clear hSw; go_simp <;> with_reducible rfl
        (try simp only [List.getElem_toArray]); (try simp only [List.getElem_cons_succ]); (try simp only [List.getElem_cons_zero]); (try simp only [Act.put]); (try simp only [List.setIfInBounds_toArray]); (repeat first | simp only [List.set_cons_succ] | simp only [List.set_cons_zero])
        have hSx := hS7.other (p := ⟨w.heap.size, th, none⟩) (by show w.heap.size ≠ wr.heap.size; exact hne) (.pointer (some ⟨p7, 0, none⟩))
        refine wpAnyH_one 13 (by kernel_rfl) rfl rfl ?_
        go_simp
        (try refine ⟨hSx, fun _ => ?_⟩)
        (try simp only [List.getElem_toArray]); (try simp only [List.getElem_cons_succ]); (try simp only [List.getElem_cons_zero]); (try simp only [Act.put]); (try simp only [List.setIfInBounds_toArray]); (repeat first | simp only [List.set_cons_succ] | simp only [List.set_cons_zero])
        refine wpAnyH_done (by kernel_rfl) ?_ _
        clear x7 z7 hSx
        have ep7 := HEP.out
        obtain ⟨w8, e8⟩ : ∃ w8, w8 = w7.setCell ⟨w.heap.size, th, none⟩ (.pointer (some ⟨p7, 0, none⟩)) := ⟨_, rfl⟩
        have hlr : wr.heap.size < w5.heap.size := hI5.lt (by show 0 < 26; decide)
        have hqw : w.heap.size < wr.heap.size := hV.lt (by decide)
        have k8 : Keeps (fun b => b = w.heap.size) w7 w8 := by rw [e8]; exact (Keeps.refl (fun b => b = w.heap.size) w7).setCell (p := ⟨w.heap.size, th, none⟩) (fun _ => rfl) _
        have hV8 : VB w8 w.heap.size 6 (fun o => if o = th then .pointer (some ⟨p7, 0, none⟩) else Q o) := by rw [e8]; exact hV7.set i3 _
        have hr8 : CL w8 wr.heap.size r.cells := hS7.keep (by show 0 < 26; decide) k8 (fun e => by have e : wr.heap.size = w.heap.size := e; omega)
        have y8 := hV8.c th i3
        rw [if_pos rfl] at y8
        have c1 := hr8.c 1 _ rfl
        rw [HET.out] at c1
        have hp8 := (hp7.keep k8 (fun e => by have e : p7 = w.heap.size := e; omega) (fun e => by have e : w5.heap.size + 2 = w.heap.size := e; omega) (fun e => by have e : w5.heap.size + 3 = w.heap.size := e; omega) (fun b e => by cases e)).more (Nat.zero_le k)
        have k58 : Keeps (fun b => b = w.heap.size) w5.drew w8 := (k7.mono (fun _ _ e => e.elim)).trans' k8 (fun _ _ e => e) (fun _ _ e => e)
        have hT5 := (HMT.out.keepB K45 (fun _ _ _ e => e)).keepB (Keeps.refl (fun _ => False) w5).drew (fun _ _ _ e => e)
        obtain ⟨v', W', hr', hT', kq⟩ := AT.add hT5 k58 (fun i h1 e => by have e : i = w.heap.size := e; omega) hp8 (by show w5.heap.size ≤ _; omega) (by show w5.heap.size ≤ _; omega) (by show w5.heap.size ≤ _; omega) rfl (by omega)
        obtain ⟨a', c', ev, -⟩ := own_slice hT'.o
        subst ev
        have hbq : ∀ i, (Value.slice a6 M c6).ownBlock = some i → w.heap.size + 1 ≤ i := fun i e => owns_baseT HMT.out.o i e
        have hV9 := hV8.keep (by decide) kq (fun e => by have := hbq _ e; omega)
        have K9 : Keeps (fun _ => False) w W' := ((kr.trans K45).trans (Keeps.refl _ w5).drew).trans' k58 (fun _ _ e => e) (fun i hi e => by have e : i = w.heap.size := e; omega) |>.trans' kq (fun _ _ e => e) (fun i hi e => by have := hbq i e; omega)
        have hT10 := (hT'.congr (T' := fun j => (ts ++ [begD r (g th)]).getD j tv0) (c' := cK l (k + 1)) (fun j hj => by
          by_cases e : j = M
          · rw [if_pos e, e, ← hM, getD_app_right]
          · rw [if_neg e, getD_app_left (by omega)]) (fun j hj => HC2.out j hj)).more (Nat.le_succ k)
        rw [← e8]
        clear hp8 hp7 k58 hT5 hT' hbq kq k8 e8 ep7
        go_wp2_with (at_builtin; refine wpList_append_t rfl _ _ _ rfl _ _ _ W' rfl rfl hr' ?_; clear hr')
        go_roundw
        case rel => exact ⟨k + 1, _, _, _, _, _, _, by go_num, by omega, by rw [HN2.out]; dsimp only; rw [List.length_append, hM]; exact hT10, hV9, HP2.out p7, K9⟩
        case measure => simp [intOf]; omega
      by_cases hof : ofD r.kind = true
      · have s1 : (r.kind == 1) = false := by simp [hk1]
        have s2 : (r.kind == 2) = false := by simp [hk2]
        have hk0 : r.kind ≠ 0 := fun e => by rw [e] at hof; cases hof
        have h17 : r.kind ≠ 17 := fun e => by rw [e] at hof; cases hof
        have hno := hro.o hof
        have hth := hro.th hk0
        have hoa : ofA r.kind = true := by
          have h := hfit
          unfold fitP at h
          rw [if_neg hk0, if_neg (by omega), if_neg hk1, if_neg hk2, if_neg h17] at h
          simp only [Bool.and_eq_true] at h
          exact h.1.1.1.1
        have hofd := fun W => ofAttempt_any W r.kind
        rw [hoa] at hofd
        obtain ⟨th, et⟩ : ∃ th : Nat, r.thread = (th : Int) := ⟨r.thread.toNat, by omega⟩
        have ett : r.thread.toNat = th := by omega
        rw [ett] at hfit
        obtain ⟨hnf, hst⟩ := fit_no hfit hk0 hk1 hk2
        obtain ⟨i, en⟩ : ∃ i : Nat, r.no = (i : Int) + 1 := ⟨(r.no - 1).toNat, by omega⟩
        have i1 : (0 : Int) ≤ (th : Int) := by omega
        have i2 : (th : Int) < 6 := by omega
        have i3 : th < 6 := by omega
        have im : i < M := by omega
        have hQ : Q th = .pointer (some ⟨pb i, 0, none⟩) := by rw [hPR th i3 hst, ← hnf, en, show ((i : Int) + 1 - 1).toNat = i by omega]
        have HN2 : Hid (txK l (k + 1) = (ts.set i (addD (ts.getD i tv0) r), g)) := by
          show _ = _
          rw [HNX.out]
          unfold stT
          rw [if_neg hk1, if_neg hk2, if_pos hof, en, show ((i : Int) + 1 - 1).toNat = i by omega]
        have HC2 : Hid (∀ j, (if j = i then relC (ck i) r else ck j) = cK l (k + 1) j) := fun j => by
          rw [HCX.out, en, show ((i : Int) + 1 - 1).toNat = i by omega]
          by_cases e : j = i
          · subst e
            rw [if_pos rfl, if_pos ⟨hof, rfl⟩]
          · rw [if_neg e, if_neg (fun h => e h.2.symm)]
        have HP2 : Hid (PR (fAt l (k + 1)) Q pb) := by
          show PR _ _ _
          rw [HFX.out, ett]
          exact hPR.go hfit hk1 hk2
        have HET : Hid (r.thread = (th : Int)) := et
        have HF1 : Hid ((ts.getD i tv0).fnl = -1 ∨ 0 ≤ (ts.getD i tv0).fnl) := hfnl i im
        clear HNX hro hk1 hk2 hof HCX HFX hoa et ett hth hno en hnf hst hfit hfnl hPR hk0 h17 hvi hstp
        go_wp2_with (first | (refine wpList_load_run rfl 50 _ rfl ⟨b, off + k * 26, none⟩ rfl _ hR ?_; clear hR) | (rw [← HW4.out]; clear HW4; refine wpList_store_cl rfl 50 _ _ rfl wr.heap.size 0 26 _ rfl rfl rfl hU4 (by show 26 ≤ 26; decide) iRw hOC ?_; intro w5 hc5 k5 hsz5; clear hsz5; have hI5 : CL w5 wr.heap.size r.cells := hc5; clear hc5; have K45 : Keeps (fun _ => False) wr w5 := k4.trans' k5 (fun _ _ e => e) (fun i hi e => (by have e : i = wr.heap.size := e; omega)); have c5 := hI5.c 5 _ rfl; have hV5 := hV.keep (by decide) K45 (fun e => e)) | (go_at_call 41; refine (hofd _).mono ?_; clear hofd; rintro e w9 ⟨rfl, ew⟩; subst w9))
        refine wp_region_held_drew (S := SV wr.heap.size w.heap.size r Q) (by kernel_rfl) ⟨hI5.drew, hV5.keep (by decide) (Keeps.refl (fun _ => False) w5).drew (fun e => e)⟩ (fun hHeld => ?_)
        refine wpAnyH_take (i := 0) (v := ?_) rfl (by kernel_rfl) (by kernel_rfl) (by kernel_rfl) (fun _ _ _ h => h) (Or.inl ⟨by rfl, ?_⟩) (by assumption) ?_
        rotate_left
        · intro wx hSw; clear hSw; go_simp <;> with_reducible rfl
        (try simp only [List.getElem_toArray]); (try simp only [List.getElem_cons_succ]); (try simp only [List.getElem_cons_zero]); (try simp only [Act.put]); (try simp only [List.setIfInBounds_toArray]); (repeat first | simp only [List.set_cons_succ] | simp only [List.set_cons_zero])
        refine wpAnyH_take (i := 1) (v := ?_) rfl (by kernel_rfl) (by kernel_rfl) (by kernel_rfl) (fun _ _ _ h => h) (Or.inl ⟨by rfl, ?_⟩) (by assumption) ?_
        rotate_left
        · intro wx hSw; have p1 := hSw.r.c 1 _ rfl; rw [HET.out] at p1; clear hSw; go_simp <;> with_reducible rfl
        (try simp only [List.getElem_toArray]); (try simp only [List.getElem_cons_succ]); (try simp only [List.getElem_cons_zero]); (try simp only [Act.put]); (try simp only [List.setIfInBounds_toArray]); (repeat first | simp only [List.set_cons_succ] | simp only [List.set_cons_zero])
        refine wpAnyH_take (i := 2) (v := ?_) rfl (by kernel_rfl) (by kernel_rfl) (by kernel_rfl) (fun _ _ _ h => h) (Or.inl ⟨by rfl, ?_⟩) (by assumption) ?_
        rotate_left
        · intro wx hSw; clear hSw; go_simp <;> with_reducible rfl
        (try simp only [List.getElem_toArray]); (try simp only [List.getElem_cons_succ]); (try simp only [List.getElem_cons_zero]); (try simp only [Act.put]); (try simp only [List.setIfInBounds_toArray]); (repeat first | simp only [List.set_cons_succ] | simp only [List.set_cons_zero])
        refine wpAnyH_take (i := 3) (v := ?_) rfl (by kernel_rfl) (by kernel_rfl) (by kernel_rfl) (fun _ _ _ h => h) (Or.inl ⟨by rfl, ?_⟩) (by assumption) ?_
        rotate_left
        · intro wx hSw; have p1 := hSw.q.c th i3; rw [hQ] at p1; clear hSw; go_simp <;> with_reducible rfl
        (try simp only [List.getElem_toArray]); (try simp only [List.getElem_cons_succ]); (try simp only [List.getElem_cons_zero]); (try simp only [Act.put]); (try simp only [List.setIfInBounds_toArray]); (repeat first | simp only [List.set_cons_succ] | simp only [List.set_cons_zero])
        refine wpAnyH_take (i := 4) (v := (.agg r.cells.toArray)) rfl (by kernel_rfl) (by kernel_rfl) (by kernel_rfl) (fun _ _ _ h => h) (Or.inl ⟨by rfl, ?_⟩) (by assumption) ?_
        · intro wx hSw; exact takes_load 50 _ rfl ⟨wr.heap.size, 0, none⟩ rfl (run_rw hSw.r)
        (try simp only [List.getElem_toArray]); (try simp only [List.getElem_cons_succ]); (try simp only [List.getElem_cons_zero]); (try simp only [Act.put]); (try simp only [List.setIfInBounds_toArray]); (repeat first | simp only [List.set_cons_succ] | simp only [List.set_cons_zero])
        have hT6 := (HMT.out.keepB K45 (fun _ _ _ e => e)).keepB (Keeps.refl (fun _ => False) w5).drew (fun _ _ _ e => e)
        have hln := learn_any r (hT6.a i im) hT6.bb hi64k.1 hi64k.2 (by omega) HF1.out
        refine wpAnyH_one 5 (by kernel_rfl) rfl rfl ?_
        go_simp
        refine hln.mono ?_
        clear hln
        rintro e w9 ⟨sv', rfl, hPF⟩
        obtain ⟨hT9, k9⟩ := hT6.learn im hPF
        have hlr : wr.heap.size < w5.heap.size := hI5.lt (by show 0 < 26; decide)
        have hS9 : SV wr.heap.size w.heap.size r Q w9 := ⟨hHeld.r.keep (by show 0 < 26; decide) hPF.k (fun e => ?_), hHeld.q.keep (by decide) k9 (fun e => by have e : w.heap.size + 1 ≤ w.heap.size := e; omega)⟩
        rotate_left
        · have q1 := (HMT.out.a i im).cl.lt (by show 0 < 13; decide)
          have q2 := (HMT.out.a i im).w.lt
          have q3 : rb i < wr.heap.size := by obtain ⟨_, _, h2⟩ := (HMT.out.a i im).r; exact h2.lt
          rcases e with e | e | e | e
          · omega
          · omega
          · omega
          · have := owns_lt' (HMT.out.a i im).s _ e
            omega
        refine ⟨hS9, fun _ => ?_⟩
        (try simp only [List.getElem_toArray]); (try simp only [List.getElem_cons_succ]); (try simp only [List.getElem_cons_zero]); (try simp only [Act.put]); (try simp only [List.setIfInBounds_toArray]); (repeat first | simp only [List.set_cons_succ] | simp only [List.set_cons_zero])
        refine wpAnyH_done (by kernel_rfl) ?_ _
        have K9 := (kr.trans K45).trans (Keeps.refl _ w5).drew |>.trans' k9 (fun _ _ e => e) (fun i hi e => by have e : w.heap.size + 1 ≤ i := e; omega)
        go_wp2_with fail
        have hT10 := hT9.congr (T' := fun j => (ts.set i (addD (ts.getD i tv0) r)).getD j tv0) (c' := cK l (k + 1)) (fun j hj => by
          by_cases e : j = i
          · subst e
            rw [if_pos rfl, getD_set_eq (by omega)]
          · rw [if_neg e, getD_set_ne e]) (fun j _ => HC2.out j)
        go_roundw
        case rel => exact ⟨k + 1, pb, _, wb, rb, _, Q, by go_num, by omega, by rw [HN2.out]; dsimp only; rw [List.length_set, hM]; exact hT10, hS9.q, HP2.out, K9⟩
        case measure => simp [intOf]; omega
      have s1 : (r.kind == 1) = false := by simp [hk1]
      have s2 : (r.kind == 2) = false := by simp [hk2]
      have hof : ofD r.kind = false := by simpa using hof
      have hofd := fun W => ofAttempt_any W r.kind
      have hk017 : r.kind = 0 ∨ r.kind = 17 := by
        by_cases h0 : r.kind = 0
        · exact .inl h0
        · by_cases h17 : r.kind = 17
          · exact .inr h17
          · exact absurd (ofd_x h0 hk1 hk2 h17) (by rw [hof]; decide)
      have hoa : ofA r.kind = false := by rcases hk017 with e | e <;> rw [e] <;> rfl
      rw [hoa] at hofd
      have HN2 : Hid (txK l (k + 1) = (ts, g)) := by
        show _ = _
        rw [HNX.out]
        unfold stT
        rw [if_neg hk1, if_neg hk2, hof]
        rfl
      have HC2 : Hid (∀ i, ck i = cK l (k + 1) i) := fun i => by rw [HCX.out, if_neg (fun e => by rw [hof] at e; cases e.1)]
      have HP2 : Hid (PR (fAt l (k + 1)) Q pb) := by
        show PR _ _ _
        rw [HFX.out]
        exact hPR.go hfit hk1 hk2
      clear HNX hro hk1 hk2 hof HCX HFX hk017 hoa
      go_wp2_with (first | (refine wpList_load_run rfl 50 _ rfl ⟨b, off + k * 26, none⟩ rfl _ hR ?_; clear hR) | (rw [← HW4.out]; clear HW4; refine wpList_store_cl rfl 50 _ _ rfl wr.heap.size 0 26 _ rfl rfl rfl hU4 (by show 26 ≤ 26; decide) iRw hOC ?_; intro w5 hc5 k5 hsz5; clear hsz5; have hI5 : CL w5 wr.heap.size r.cells := hc5; clear hc5; have K45 : Keeps (fun _ => False) wr w5 := k4.trans' k5 (fun _ _ e => e) (fun i hi e => (by have e : i = wr.heap.size := e; omega)); have c5 := hI5.c 5 _ rfl; have hV5 := hV.keep (by decide) K45 (fun e => e)) | (go_at_call 41; refine (hofd _).mono ?_; clear hofd; rintro e w9 ⟨rfl, ew⟩; subst w9))
      go_roundw
      case rel => exact ⟨k + 1, pb, sv, wb, rb, ρ, Q, by go_num, by omega, by rw [HN2.out]; dsimp only; rw [hM]; exact ((HMT.out.keepB K45 (fun _ _ _ e => e)).congr (fun _ _ => rfl) (fun i _ => HC2.out i)).more (by omega), hV5, HP2.out, kr.trans K45⟩
      case measure => simp [intOf]; omega
    · have e : k = N := by omega
      subst e
      have l1 : decide ((k : Int) < (k : Int)) = false := decide_eq_false (by omega)
      have l4 : decide (k < k) = false := decide_eq_false (by omega)
      go_wp2_with fail
      go_ret
      exact ⟨_, _, _, _, _, _, rfl, hT, kr⟩
end Go.Proofs.Ytmnmphkkcabkiaa

