import Derived.Test.YtmnmphkkcabkiaaG05
import Derived.Maps.OwnSet
import Derived.Carry
namespace Go.Proofs.Ytmnmphkkcabkiaa
open Go.RowKit Go.Maps Go.ChangeMaps Go.MapKept Go.WideShapes
theorem underI : Try.prog.underlying 3 = some (.int .i64) := by kernel_rfl
theorem underW : Try.prog.underlying 64 = some (.map 3 27) := by kernel_rfl
theorem underR : Try.prog.underlying 95 = some (.map 3 3) := by kernel_rfl
theorem keyed : Keyed Try.prog 3 := int_keyed underI
theorem zeroI (w : World) : (zeroValue 3).run Try.prog w = .ok (.int .i64 0) w := by kernel_rfl
theorem tight {H : Type} {P : Program} {k : TypeId} {R : Value → Option (DataW H × List MemPlace)} {w : World} {b n : Nat} {D : DataW H} (h : w.ownsMap P k R b n D) : w.ownsMap P k R b (Maps.size D) D := by
  obtain ⟨es, clock, hb, F, hs, rfl⟩ := h
  exact ⟨es, clock, hb, F, by simp [Maps.size, length_sorted], rfl⟩
def Rh (v : Value) : Option (DataW Value × List MemPlace) := some (.held v, [])
def MV (w : World) (mb n : Nat) (f : Int → Option Value) : Prop :=
  ∃ D : DataW Value, w.ownsMap Try.prog 3 Rh mb n D ∧ Maps.size D = n ∧
    ∀ k, I64 k → Maps.has D (.int .i64 k) = (f k).isSome ∧ ∀ u, f k = some u → ∀ z, D.atKey (.int .i64 k) z = .held u
theorem MV.lt {w : World} {mb n : Nat} {f : Int → Option Value} (h : MV w mb n f) : mb < w.heap.size := by
  obtain ⟨D, h, _⟩ := h
  exact h.lt
theorem MV.same {w w' : World} {mb n : Nat} {f : Int → Option Value} (h : MV w mb n f) (hb : w'.heap[mb]? = w.heap[mb]?) : MV w' mb n f := by
  obtain ⟨D, ⟨es, c, hb', r⟩, r'⟩ := h
  exact ⟨D, ⟨es, c, hb.trans hb', r⟩, r'⟩
theorem MV.keep {w w' : World} {mb n : Nat} {f : Int → Option Value} {S : Nat → Prop} (h : MV w mb n f) (k : Keeps S w w') (hS : ¬ S mb) : MV w' mb n f := h.same (k.block mb h.lt hS)
theorem key_int {k : Int} (h : I64 k) : keyOf Try.prog 3 (.int .i64 k) = some (.int .i64 k) := keyOf_int_mk underI (wf_of_i64 h)
theorem keeps_turned {w w' : World} {b : Nat} (h : w.mapTurned w' b) : Keeps (fun k => k = b) w w' := (Keeps.refl _ w).grown h.grown (fun _ _ e => by cases e; rfl)
theorem ne_key {a b : Int} (h : a ≠ b) : (Lit.int .i64 a) ≠ (Lit.int .i64 b) := fun e => h (by cases e; rfl)
def updV (f : Int → Option Value) (k : Int) (v : Value) : Int → Option Value := fun x => if x = k then some v else f x
theorem MV.look {w : World} {mb n : Nat} {f : Int → Option Value} (h : MV w mb n f) {t e : TypeId} (ht : Try.prog.underlying t = some (.map 3 e)) {z : Value} (hz : (zeroValue e).run Try.prog w = .ok z w) {k : Int} (hk : I64 k) :
    (Instr.lookup t (.map (some mb)) (.int .i64 k) false).run Try.prog w = .ok ((f k).getD z) w := by
  obtain ⟨D, h1, h2, h3⟩ := h
  obtain ⟨v, ps, hrun, hv⟩ := h1.lookup keyed ht hz (zd := .held z) (zp := []) rfl (key_int hk)
  rw [hrun]
  have e : (DataW.held v : DataW Value) = D.atKey (.int .i64 k) (.held z) := by
    exact congrArg Prod.fst (Option.some.inj hv)
  cases hf : f k with
  | none =>
    rw [atKey_of_not_has (by rw [(h3 k hk).1, hf]; rfl)] at e
    rw [DataW.held.inj e]
    rfl
  | some u =>
    rw [(h3 k hk).2 u hf] at e
    rw [DataW.held.inj e]
    rfl
theorem MV.put {w : World} {mb n : Nat} {f : Int → Option Value} (h : MV w mb n f) {t e : TypeId} (ht : Try.prog.underlying t = some (.map 3 e)) {k : Int} (hk : I64 k) (v : Value) (hn : n < 9223372036854775807) :
    ∃ w', (Instr.mapUpdate t (.map (some mb)) (.int .i64 k) v).run Try.prog w = .ok () w' ∧ MV w' mb (if (f k).isSome then n else n + 1) (updV f k v) ∧ Keeps (fun i => i = mb) w w' := by
  obtain ⟨D, h1, h2, h3⟩ := h
  obtain ⟨w', hrun, hown, htn⟩ := h1.store keyed ht (by unfold maxLen; omega) (key_int hk) (d := .held v) (ps := []) rfl
  have hT := h1.tidy keyed
  have e := size_put (k := .int .i64 k) hT (.held v)
  rw [(h3 k hk).1, h2] at e
  refine ⟨w', hrun, ⟨D.put (.int .i64 k) (.held v), ?_, e, fun x hx => ?_⟩, keeps_turned htn⟩
  · rw [← e]
    exact tight hown
  · unfold updV
    by_cases c : x = k
    · subst c
      have hkl : WideAt.IsKeyLit (.int .i64 x) := trivial
      rw [if_pos rfl, has_put_same h1.isMap hkl]
      refine ⟨rfl, fun u hu z => ?_⟩
      rw [atKey_put_same h1.isMap hkl, Option.some.inj hu]
    · rw [if_neg c, has_put_other (ne_key c)]
      refine ⟨(h3 x hx).1, fun u hu z => ?_⟩
      rw [atKey_put_other (ne_key c)]
      exact (h3 x hx).2 u hu z
theorem MV.made (w : World) : MV (w.alloc (.map #[] 0)) w.heap.size 0 (fun _ => none) :=
  ⟨.map [], World.ownsMap_made w _ _ _, rfl, fun _ _ => ⟨rfl, fun u hu => by cases hu⟩⟩
def Wo.val (x : Wo) : Value := .agg #[.int .i64 x.vN, .int .i64 x.vX, .bool x.vD]
def wof : List Wo → Int → Option Value
  | [], _ => none
  | x :: l, o => if x.object = o then some x.val else wof l o
def Inc (l : List Wo) : Prop := l.Pairwise (fun x y => x.object < y.object)
theorem wof_app (l m : List Wo) (o : Int) : wof (l ++ m) o = (wof l o).or (wof m o) := by
  induction l with
  | nil => rfl
  | cons x l ih =>
    show (if x.object = o then _ else wof (l ++ m) o) = (if x.object = o then some x.val else wof l o).or _
    split
    · rfl
    · exact ih
end Go.Proofs.Ytmnmphkkcabkiaa

namespace Go.Proofs.Ytmnmphkkcabkiaa
open Go.RowKit
def insW (x : Wo) : List Wo → List Wo
  | [] => [x]
  | y :: l => if y.object = x.object then x :: l else if x.object < y.object then x :: y :: l else y :: insW x l
theorem put_done (x : Wo) : ∀ (l : List Wo) (acc : List Wo), (∀ y ∈ l, y.object ≠ x.object) → l.foldl (putS x) (acc, true) = (acc ++ l, true)
  | [], acc, _ => by simp
  | y :: l, acc, h => by
    have h1 : y.object ≠ x.object := h y (by simp)
    have e : putS x (acc, true) y = (acc ++ [y], true) := by
      unfold putS
      rw [if_neg h1, if_neg (fun e => by cases e.1)]
    rw [List.foldl_cons, e, put_done x l _ (fun z hz => h z (by simp [hz]))]
    simp
theorem put_run (x : Wo) : ∀ (l : List Wo) (acc : List Wo), Inc l → (if (l.foldl (putS x) (acc, false)).2 then (l.foldl (putS x) (acc, false)).1 else (l.foldl (putS x) (acc, false)).1 ++ [x]) = acc ++ insW x l
  | [], acc, _ => by simp [insW]
  | y :: l, acc, h => by
    have hy := (List.pairwise_cons.1 h).1
    have hl := (List.pairwise_cons.1 h).2
    unfold insW
    rw [List.foldl_cons]
    by_cases h1 : y.object = x.object
    · have e : putS x (acc, false) y = (acc ++ [x], true) := by
        unfold putS
        rw [if_pos h1]
      rw [if_pos h1, e, put_done x l _ (fun z hz => by have := hy z hz; omega)]
      simp
    · rw [if_neg h1]
      by_cases h2 : x.object < y.object
      · have e : putS x (acc, false) y = (acc ++ [x] ++ [y], true) := by
          unfold putS
          rw [if_neg h1, if_pos ⟨rfl, h2⟩]
        rw [if_pos h2, e, put_done x l _ (fun z hz => by have := hy z hz; omega)]
        simp
      · have e : putS x (acc, false) y = (acc ++ [y], false) := by
          unfold putS
          rw [if_neg h1, if_neg (fun e => h2 e.2)]
        rw [if_neg h2, e, put_run x l _ hl]
        simp
theorem putD_ins {l : List Wo} (h : Inc l) (x : Wo) : putD l x = insW x l := by
  have := put_run x l [] h
  unfold putD putK
  rw [List.take_length]
  simpa using this
theorem mem_ins {x z : Wo} : ∀ {l : List Wo}, z ∈ insW x l → z = x ∨ z ∈ l
  | [], h => by
    have h : z ∈ [x] := h
    simp at h
    exact .inl h
  | y :: l, h => by
    unfold insW at h
    split at h
    · rcases List.mem_cons.1 h with h | h
      · exact .inl h
      · exact .inr (by simp [h])
    · split at h
      · rcases List.mem_cons.1 h with h | h
        · exact .inl h
        · exact .inr h
      · rcases List.mem_cons.1 h with h | h
        · exact .inr (by simp [h])
        · rcases mem_ins h with h | h
          · exact .inl h
          · exact .inr (by simp [h])
theorem Inc.ins {x : Wo} : ∀ {l : List Wo}, Inc l → Inc (insW x l)
  | [], _ => List.pairwise_cons.2 ⟨fun _ h => by simp at h, List.Pairwise.nil⟩
  | y :: l, h => by
    have hy := (List.pairwise_cons.1 h).1
    have hl := (List.pairwise_cons.1 h).2
    unfold insW
    by_cases h1 : y.object = x.object
    · rw [if_pos h1]
      exact List.pairwise_cons.2 ⟨fun z hz => by have := hy z hz; omega, hl⟩
    · rw [if_neg h1]
      by_cases h2 : x.object < y.object
      · rw [if_pos h2]
        refine List.pairwise_cons.2 ⟨fun z hz => ?_, h⟩
        rcases List.mem_cons.1 hz with rfl | hz
        · exact h2
        · have := hy z hz; omega
      · rw [if_neg h2]
        refine List.pairwise_cons.2 ⟨fun z hz => ?_, Inc.ins hl⟩
        rcases mem_ins hz with rfl | hz
        · omega
        · exact hy z hz
theorem wof_none {o : Int} : ∀ {l : List Wo}, (∀ y ∈ l, y.object ≠ o) → wof l o = none
  | [], _ => rfl
  | y :: l, h => by
    unfold wof
    rw [if_neg (h y (by simp))]
    exact wof_none (fun z hz => h z (by simp [hz]))
theorem wof_ins {x : Wo} : ∀ {l : List Wo}, Inc l → ∀ o, wof (insW x l) o = updV (wof l) x.object x.val o
  | [], _, o => by
    show (if x.object = o then some x.val else none) = (if o = x.object then some x.val else none)
    by_cases e : x.object = o
    · rw [if_pos e, if_pos e.symm]
    · rw [if_neg e, if_neg (fun h => e h.symm)]
  | y :: l, h, o => by
    have hy := (List.pairwise_cons.1 h).1
    have hl := (List.pairwise_cons.1 h).2
    unfold updV
    unfold insW
    by_cases h1 : y.object = x.object
    · rw [if_pos h1]
      show (if x.object = o then some x.val else wof l o) = (if o = x.object then some x.val else if y.object = o then some y.val else wof l o)
      by_cases e : x.object = o
      · rw [if_pos e, if_pos e.symm]
      · rw [if_neg e, if_neg (fun h => e h.symm), if_neg (fun h => e (h1 ▸ h))]
    · rw [if_neg h1]
      by_cases h2 : x.object < y.object
      · rw [if_pos h2]
        show (if x.object = o then some x.val else wof (y :: l) o) = _
        by_cases e : x.object = o
        · rw [if_pos e, if_pos e.symm]
        · rw [if_neg e, if_neg (fun h => e h.symm)]
      · rw [if_neg h2]
        show (if y.object = o then some y.val else wof (insW x l) o) = (if o = x.object then some x.val else if y.object = o then some y.val else wof l o)
        rw [wof_ins hl o]
        unfold updV
        by_cases e : y.object = o
        · rw [if_pos e, if_pos e, if_neg (fun h => h1 (e.trans h))]
        · rw [if_neg e, if_neg e]
theorem val_inj {x y : Wo} (ho : x.object = y.object) (hv : x.val = y.val) : x = y := by
  cases x
  cases y
  simp [Wo.val] at hv ho ⊢
  exact ⟨ho, hv.1, hv.2.1, hv.2.2⟩
theorem Inc.ext : ∀ {l m : List Wo}, Inc l → Inc m → (∀ o, wof l o = wof m o) → l = m
  | [], [], _, _, _ => rfl
  | [], y :: m, _, _, h => by
    have := h y.object
    unfold wof at this
    rw [if_pos rfl] at this
    cases this
  | x :: l, [], _, _, h => by
    have := h x.object
    unfold wof at this
    rw [if_pos rfl] at this
    cases this
  | x :: l, y :: m, hx, hy, h => by
    have x1 := (List.pairwise_cons.1 hx).1
    have y1 := (List.pairwise_cons.1 hy).1
    have e1 : x.object = y.object := by
      by_cases c : x.object = y.object
      · exact c
      · exfalso
        by_cases d : x.object < y.object
        · have := h x.object
          rw [wof_none (l := y :: m) (fun z hz => by
            rcases List.mem_cons.1 hz with rfl | hz
            · omega
            · have := y1 z hz; omega)] at this
          unfold wof at this
          rw [if_pos rfl] at this
          cases this
        · have := h y.object
          rw [wof_none (l := x :: l) (fun z hz => by
            rcases List.mem_cons.1 hz with rfl | hz
            · omega
            · have := x1 z hz; omega)] at this
          unfold wof at this
          rw [if_pos rfl] at this
          cases this
    have e2 : x = y := val_inj e1 (by
      have := h x.object
      unfold wof at this
      rw [if_pos rfl, if_pos e1.symm] at this
      exact Option.some.inj this)
    subst e2
    have e3 : l = m := Inc.ext (List.pairwise_cons.1 hx).2 (List.pairwise_cons.1 hy).2 (fun o => by
      by_cases c : x.object = o
      · rw [wof_none (fun z hz => by have := x1 z hz; omega), wof_none (fun z hz => by have := y1 z hz; omega)]
      · have := h o
        unfold wof at this
        rw [if_neg c, if_neg c] at this
        exact this)
    rw [e3]
end Go.Proofs.Ytmnmphkkcabkiaa

namespace Go.Proofs.Ytmnmphkkcabkiaa
open Go.RowKit
attribute [local go_sem] Oper.semAt_some run_store_nf run_store_f
def cf (c : Int → Nat) : Int → Option Value := fun k => if c k = 0 then none else some (.int .i64 (c k : Int))
structure PA (base : Nat) (W : World) (p : Nat) (t : Tv) (sv : Value) (wb rb : Nat) (c : Int → Nat) (m : Nat) : Prop where
  cl : CL W p (t.cells sv nilv ++ [.map (some wb), .map (some rb)])
  s : W.ownsRow base 44 9 sv t.saws.length (scl t.saws)
  w : MV W wb t.wrs.length (wof t.wrs)
  i : Inc t.wrs
  r : ∃ n, n ≤ m ∧ MV W rb n (cf c)
  n1 : wb ≠ p
  n2 : rb ≠ p
  n3 : wb ≠ rb
  sb : ∀ b, sv.ownBlock = some b → b ≠ p ∧ b ≠ wb ∧ b ≠ rb
  cm : ∀ k, c k ≤ m
  ls : t.saws.length ≤ m ∧ t.wrs.length ≤ m
theorem PA.keep {base p wb rb m : Nat} {W W' : World} {t : Tv} {sv : Value} {c : Int → Nat} (h : PA base W p t sv wb rb c m) {S : Nat → Prop} (k : Keeps S W W') (h1 : ¬ S p) (h2 : ¬ S wb) (h3 : ¬ S rb) (h4 : ∀ b, sv.ownBlock = some b → ¬ S b) : PA base W' p t sv wb rb c m :=
  ⟨h.cl.keep (by show 0 < 13; decide) k h1, k.owns h.s h4, h.w.keep k h2, h.i, (by obtain ⟨n, hn, hr⟩ := h.r; exact ⟨n, hn, hr.keep k h3⟩), h.n1, h.n2, h.n3, h.sb, h.cm, h.ls⟩
set_option maxHeartbeats 1000000 in
set_option maxRecDepth 100000 in
theorem begin_any (w : World) (r : Rw) (st : Int) : Calls Try.prog 40 #[.agg r.cells.toArray, .int .i64 st] w fun e w' => e = .returned (.pointer (some ⟨w.heap.size + 4, 0, none⟩)) ∧ PA w.heap.size w' (w.heap.size + 4) (begD r st) nilv (w.heap.size + 2) (w.heap.size + 3) (fun _ => 0) 0 ∧ Keeps (fun _ => False) w w' := by
  obtain ⟨w0, e0, k0, -, hz⟩ := rw_box w r
  obtain ⟨W1, hW1⟩ : ∃ W1, W1 = w0.alloc (.cells #[.int .i64 0, .int .i64 0, .int .i64 0, .int .i64 0, .int .i64 0, .int .i64 0, .int .i64 0, .int .i64 0, .int .i64 0, .slice none 0 0, .slice none 0 0] 42) := ⟨_, rfl⟩
  have k1 : Keeps (fun _ => False) w0 W1 := by rw [hW1]; exact (Keeps.refl _ w0).alloc _
  have z1 : W1.heap.size = w.heap.size + 2 := by rw [hW1]; simp [hz]
  have m1 : CL W1 (w.heap.size + 1) (tv0.cells nilv nilv) := by rw [hW1, ← hz]; exact CL.made w0 (tv0.cells nilv nilv) _
  have hb0 : CL w0 w.heap.size r.cells := by rw [e0]; exact CL.made w r.cells _
  have c0 := hb0.c 0 _ rfl
  have c1 := hb0.c 1 _ rfl
  have c2 := hb0.c 2 _ rfl
  have c3 := hb0.c 3 _ rfl
  have c4 := hb0.c 4 _ rfl
  have hA := one_tx (begD r st) (sv := nilv) (wv := nilv) rfl rfl
  have K1 := k0.trans k1
  have HW1 : Hid (_ = _) := hW1
  clear hb0 hW1 k1 k0
  go_enter Try.func40, Try.ntmps40
  refine wp_seq_k (fun KK hKK => ?_)
  have hKH : Hid _ := hKK
  clear hKK
  go_wp2_with fail
  refine hKH.out _ _ ?_
  clear hKH KK
  rw [← e0]
  clear e0
  refine wp_seq_k (fun KK hKK => ?_)
  have hKH : Hid _ := hKK
  clear hKK
  go_wp2_with (rw [← HW1.out]; clear HW1; (try rw [hz]); refine wpList_store_cl rfl 42 _ _ rfl (w.heap.size + 1) 0 11 ((begD r st).cells nilv nilv).toArray rfl rfl rfl m1 (by show 11 ≤ 11; decide) iTx hA ?_; intro w5 hc5 k5 hsz5; have hI5 : CL w5 (w.heap.size + 1) ((begD r st).cells nilv nilv) := hc5; have hR2 := run_txB hI5; have K5 : Keeps (fun _ => False) w w5 := K1.trans' k5 (fun _ _ e => e) (fun i hi e => by have e : i = w.heap.size + 1 := e; omega))
  refine hKH.out _ _ ?_
  clear hKH KK
  have z5 : w5.heap.size = w.heap.size + 2 := by rw [hsz5, z1]
  clear hsz5 z1 m1 c0 c1 c2 c3 c4
  have g2 : (Instr.makeMap 64 none).run Try.prog w5 = .ok (.map (some w5.heap.size)) (w5.alloc (.map #[] 0)) := run_makeMap _ _
  have g3 : (Instr.makeMap 95 none).run Try.prog (w5.alloc (.map #[] 0)) = .ok (.map (some (w5.alloc (.map #[] 0)).heap.size)) ((w5.alloc (.map #[] 0)).alloc (.map #[] 0)) := run_makeMap _ _
  have y3 : (w5.alloc (.map #[] 0)).heap.size = w.heap.size + 3 := by simp [z5]
  have y4 : ((w5.alloc (.map #[] 0)).alloc (.map #[] 0)).heap.size = w.heap.size + 4 := by simp [z5]
  rw [z5] at g2
  rw [y3] at g3
  unfold begD nilv Tv.cells at hR2
  dsimp only at hR2
  go_wp2_with (refine wpList_load_run rfl 42 _ rfl ⟨w.heap.size + 1, 0, none⟩ rfl _ hR2 ?_; clear hR2)
  go_ret
  have q2 := MV.made w5
  have q3 := MV.made (w5.alloc (.map #[] 0))
  have q4 := CL.made ((w5.alloc (.map #[] 0)).alloc (.map #[] 0)) ((begD r st).cells nilv nilv ++ [.map (some (w.heap.size + 2)), .map (some (w.heap.size + 3))]) 97
  rw [z5] at q2
  rw [y3] at q3
  rw [y4] at q4
  have e1 : wof [] = fun _ => none := funext (fun _ => rfl)
  have e2 : cf (fun _ => 0) = fun _ => none := funext (fun _ => if_pos rfl)
  refine ⟨rfl, ⟨q4, World.ownsRow_nil _ _ _ _, ?_, List.Pairwise.nil, ⟨0, Nat.le_refl _, ?_⟩, by omega, by omega, by omega, (fun b e => by cases e), fun _ => Nat.le_refl _, Nat.le_refl _, Nat.le_refl _⟩, ?_⟩
  · show MV _ _ 0 (wof [])
    rw [e1]
    exact q2.keep (((Keeps.refl (fun _ => False) _).alloc _).alloc _) (fun e => e)
  · rw [e2]
    exact q3.keep ((Keeps.refl (fun _ => False) _).alloc _) (fun e => e)
  · exact ((K5.alloc _).alloc _).alloc _
end Go.Proofs.Ytmnmphkkcabkiaa

namespace Go.Proofs.Ytmnmphkkcabkiaa
open Go.RowKit Go.WideShapes
attribute [local go_sem] Oper.semAt_some run_store_nf run_store_f
def relC (c : Int → Nat) (r : Rw) : Int → Nat := if r.kind = 4 ∧ r.entry ≠ -1 then fun k => if k = r.entry then c k + 1 else c k else c
structure PL (base : Nat) (w X : World) (B p : Nat) (r : Rw) (t : Tv) (sv0 sv : Value) (wb rb : Nat) (c : Int → Nat) (m : Nat) : Prop where
  ro : CL X B r.cells
  a : PA base X p t sv wb rb c (m + 1)
  cc : ∀ k, c k ≤ m
  cr : ∃ n, n ≤ m ∧ MV X rb n (cf c)
  k : Keeps (fun b => b = p ∨ b = wb ∨ b = rb ∨ sv0.ownBlock = some b) w X
  b1 : p < B
  b2 : wb < B
  b3 : rb < B
  eb : w.heap.size = B
  bs : ∀ b, sv.ownBlock = some b → sv0.ownBlock = some b ∨ B < b
  b0 : ∀ b, sv0.ownBlock = some b → b < B
  bb : base ≤ B
  lt : B < X.heap.size
structure PF (base : Nat) (w X : World) (p : Nat) (t : Tv) (sv0 sv : Value) (wb rb : Nat) (c : Int → Nat) (m : Nat) : Prop where
  a : PA base X p t sv wb rb c (m + 1)
  k : Keeps (fun b => b = p ∨ b = wb ∨ b = rb ∨ sv0.ownBlock = some b) w X
  bs : ∀ b, sv.ownBlock = some b → sv0.ownBlock = some b ∨ w.heap.size ≤ b
theorem PL.fin {base B p wb rb m : Nat} {w X : World} {r : Rw} {t : Tv} {sv0 sv : Value} {c : Int → Nat} (h : PL base w X B p r t sv0 sv wb rb c m) : PF base w X p t sv0 sv wb rb c m :=
  ⟨h.a, h.k, fun b e => (h.bs b e).imp id (fun e => by have := h.eb; omega)⟩
theorem PL.ne {base B p wb rb m : Nat} {w X : World} {r : Rw} {t : Tv} {sv0 sv : Value} {c : Int → Nat} (h : PL base w X B p r t sv0 sv wb rb c m) : ∀ b, sv.ownBlock = some b → b ≠ B := fun b e e' => by
  rcases h.bs b e with h1 | h1
  · have := h.b0 b h1; omega
  · omega
structure S2 (p B : Nat) (l : List Value) (r : Rw) (W : World) : Prop where
  a : CL W p l
  r : CL W B r.cells
theorem cf_at (c : Int → Nat) (k : Int) : ((cf c k).getD (.int .i64 0)) = .int .i64 (c k : Int) := by
  unfold cf
  split
  · rename_i h
    rw [h]
    rfl
  · rfl
theorem cf_upd (c : Int → Nat) (k : Int) : updV (cf c) k (.int .i64 ((c k : Int) + 1)) = cf (fun x => if x = k then c x + 1 else c x) := by
  funext x
  by_cases e : x = k
  · subst e
    simp [updV, cf]
  · simp [updV, cf, e]
def lrT1 (f : Func) : Code := match f.body with | some (.seq _ t) => t | _ => .skip
def lrT2 (f : Func) : Code := match f.body with | some (.seq _ (.seq _ t)) => t | _ => .skip
def lrT3 (f : Func) : Code := match f.body with | some (.seq _ (.seq _ (.seq _ t))) => t | _ => .skip
def lrT4 (f : Func) : Code := match f.body with | some (.seq _ (.seq _ (.seq _ (.seq _ t)))) => t | _ => .skip
def lrT5 (f : Func) : Code := match f.body with | some (.seq _ (.seq _ (.seq _ (.seq _ (.seq _ t))))) => t | _ => .skip
set_option maxHeartbeats 1000000 in
set_option maxRecDepth 100000 in
theorem learn_5 {base B p wb rb m : Nat} {w X : World} {r : Rw} {t : Tv} {sv0 sv : Value} {c : Int → Nat} {R : Ending → World → Prop} {x1 x2 x4 x5 x6 x7 x8 x9 x10 x11 x12 x13 x14 x15 x16 x17 x18 x19 x20 x21 x22 x23 x24 x25 x26 x27 x28 x29 x30 x31 x32 x33 x34 x35 x36 x37 x38 x39 x40 x41 x42 x43 x44 x45 x46 x47 x48 x49 x50 x51 x52 x53 x54 x55 x56 x57 x58 x59 x60 x61 x62 x63 x64 x65 x66 x67 x68 x69 x70 x71 x72 x73 x74 x75 x76 : Value} (h : PL base w X B p r t sv0 sv wb rb c m) (he : I64 r.entry) (hm : m ≤ 980000000000) (hR : ∀ X2 sv2, PF base w X2 p t sv0 sv2 wb rb (relC c r) m → R (.returned (.tuple #[])) X2) : (lrT5 Try.f42).wp Try.prog (bodyPost Try.prog Try.f42 R) { tmps := #[.pointer (some ⟨p, 0, none⟩), x1, x2, .pointer (some ⟨B, 0, none⟩), x4, x5, x6, x7, x8, x9, x10, x11, x12, x13, x14, x15, x16, x17, x18, x19, x20, x21, x22, x23, x24, x25, x26, x27, x28, x29, x30, x31, x32, x33, x34, x35, x36, x37, x38, x39, x40, x41, x42, x43, x44, x45, x46, x47, x48, x49, x50, x51, x52, x53, x54, x55, x56, x57, x58, x59, x60, x61, x62, x63, x64, x65, x66, x67, x68, x69, x70, x71, x72, x73, x74, x75, x76], defers := [] } X := by
  have r5 := h.ro.c 5 _ rfl
  have r8 := h.ro.c 8 _ rfl
  have a12 := h.a.cl.c 12 _ rfl
  have hA := h
  have HR : Hid _ := hR
  clear hR
  dsimp only [lrT5, Try.f42]
  by_cases hk4 : r.kind = 4
  · have s4 : (r.kind == 4) = true := by simp [hk4]
    by_cases hen : r.entry = -1
    · have s5 : (r.entry != -1) = false := by simp [hen]
      have HE : Hid (relC c r = c) := by
        show _ = _
        unfold relC
        rw [if_neg (fun e => e.2 hen)]
      rw [HE.out] at HR
      clear hk4 hen h
      go_wp2_with fail
      go_end0
      exact HR.out _ _ hA.fin
    · have s5 : (r.entry != -1) = true := by simp [hen]
      have HE : Hid (relC c r = fun k => if k = r.entry then c k + 1 else c k) := by
        show _ = _
        unfold relC
        rw [if_pos ⟨hk4, hen⟩]
      rw [HE.out] at HR
      obtain ⟨n, hn, hM⟩ := h.cr
      have hMd := hM.keep (Keeps.refl (fun _ => False) X).drew (fun e => e)
      have hlk := hMd.look underR (zeroI _) he
      rw [cf_at] at hlk
      have hcm := h.cc r.entry
      have hw1 : IntKind.i64.wrap ((c r.entry : Int) + 1) = (c r.entry : Int) + 1 := by rw [IntKind.wrap_i64]; omega
      obtain ⟨W', hup, hM', kk⟩ := hMd.put underR he (.int .i64 ((c r.entry : Int) + 1)) (by omega)
      rw [cf_upd] at hM'
      have HH : Hid _ := h
      have HM' : Hid _ := hM'
      have Hn : Hid (n ≤ m) := hn
      clear h hM hMd hM' hA hn hcm hk4 hen
      generalize hcn : c r.entry = ce at *
      go_wp2_with fail
      refine wp_region_held_drew (S := S2 p B (t.cells sv nilv ++ [.map (some wb), .map (some rb)]) r) (by kernel_rfl) ⟨HH.out.a.cl.drew, HH.out.ro.drew⟩ (fun hHeld => ?_)
      refine wpAnyH_take (i := 0) (v := ?_) rfl (by kernel_rfl) (by kernel_rfl) (by kernel_rfl) (fun _ _ _ h => h) (Or.inl ⟨by rfl, ?_⟩) (by assumption) ?_
      rotate_left
      · intro wx hSw; clear hSw; go_simp <;> with_reducible rfl
      (try simp only [List.getElem_toArray]); (try simp only [List.getElem_cons_succ]); (try simp only [List.getElem_cons_zero]); (try simp only [Act.put]); (try simp only [List.setIfInBounds_toArray]); (repeat first | simp only [List.set_cons_succ] | simp only [List.set_cons_zero])
      refine wpAnyH_take (i := 1) (v := ?_) rfl (by kernel_rfl) (by kernel_rfl) (by kernel_rfl) (fun _ _ _ h => h) (Or.inl ⟨by rfl, ?_⟩) (by assumption) ?_
      rotate_left
      · intro wx hSw; clear hSw; go_simp <;> with_reducible rfl
      (try simp only [List.getElem_toArray]); (try simp only [List.getElem_cons_succ]); (try simp only [List.getElem_cons_zero]); (try simp only [Act.put]); (try simp only [List.setIfInBounds_toArray]); (repeat first | simp only [List.set_cons_succ] | simp only [List.set_cons_zero])
      refine wpAnyH_take (i := 2) (v := ?_) rfl (by kernel_rfl) (by kernel_rfl) (by kernel_rfl) (fun _ _ _ h => h) (Or.inl ⟨by rfl, ?_⟩) (by assumption) ?_
      rotate_left
      · intro wx hSw; clear hSw; go_simp <;> with_reducible rfl
      (try simp only [List.getElem_toArray]); (try simp only [List.getElem_cons_succ]); (try simp only [List.getElem_cons_zero]); (try simp only [Act.put]); (try simp only [List.setIfInBounds_toArray]); (repeat first | simp only [List.set_cons_succ] | simp only [List.set_cons_zero])
      refine wpAnyH_take (i := 3) (v := ?_) rfl (by kernel_rfl) (by kernel_rfl) (by kernel_rfl) (fun _ _ _ h => h) (Or.inl ⟨by rfl, ?_⟩) (by assumption) ?_
      rotate_left
      · intro wx hSw; have p1 := hSw.a.c 12 _ rfl; clear hSw; go_simp <;> with_reducible rfl
      (try simp only [List.getElem_toArray]); (try simp only [List.getElem_cons_succ]); (try simp only [List.getElem_cons_zero]); (try simp only [Act.put]); (try simp only [List.setIfInBounds_toArray]); (repeat first | simp only [List.set_cons_succ] | simp only [List.set_cons_zero])
      refine wpAnyH_take (i := 4) (v := ?_) rfl (by kernel_rfl) (by kernel_rfl) (by kernel_rfl) (fun _ _ _ h => h) (Or.inl ⟨by rfl, ?_⟩) (by assumption) ?_
      rotate_left
      · intro wx hSw; clear hSw; go_simp <;> with_reducible rfl
      (try simp only [List.getElem_toArray]); (try simp only [List.getElem_cons_succ]); (try simp only [List.getElem_cons_zero]); (try simp only [Act.put]); (try simp only [List.setIfInBounds_toArray]); (repeat first | simp only [List.set_cons_succ] | simp only [List.set_cons_zero])
      refine wpAnyH_take (i := 5) (v := ?_) rfl (by kernel_rfl) (by kernel_rfl) (by kernel_rfl) (fun _ _ _ h => h) (Or.inl ⟨by rfl, ?_⟩) (by assumption) ?_
      rotate_left
      · intro wx hSw; have p1 := hSw.r.c 8 _ rfl; clear hSw; go_simp <;> with_reducible rfl
      (try simp only [List.getElem_toArray]); (try simp only [List.getElem_cons_succ]); (try simp only [List.getElem_cons_zero]); (try simp only [Act.put]); (try simp only [List.setIfInBounds_toArray]); (repeat first | simp only [List.set_cons_succ] | simp only [List.set_cons_zero])
      refine wpAnyH_one 6 (by kernel_rfl) rfl rfl ?_
      go_simp
      (try simp only [List.getElem_toArray]); (try simp only [List.getElem_cons_succ]); (try simp only [List.getElem_cons_zero]); (try simp only [Act.put]); (try simp only [List.setIfInBounds_toArray]); (repeat first | simp only [List.set_cons_succ] | simp only [List.set_cons_zero])
      refine wpAnyH_take (i := 7) (v := ?_) rfl (by kernel_rfl) (by kernel_rfl) (by kernel_rfl) (fun _ _ _ h => h) (Or.inl ⟨by rfl, ?_⟩) (by assumption) ?_
      rotate_left
      · intro wx hSw; clear hSw; go_simp <;> with_reducible rfl
      (try simp only [List.getElem_toArray]); (try simp only [List.getElem_cons_succ]); (try simp only [List.getElem_cons_zero]); (try simp only [Act.put]); (try simp only [List.setIfInBounds_toArray]); (repeat first | simp only [List.set_cons_succ] | simp only [List.set_cons_zero])
      refine wpAnyH_one 8 (by kernel_rfl) rfl rfl ?_
      go_simp
      refine ⟨⟨hHeld.a.keep (by show 0 < 13; decide) kk (fun e => HH.out.a.n2 (Eq.symm e)), hHeld.r.keep (by show 0 < 26; decide) kk (fun e => by have e : B = rb := e; have := HH.out.b3; omega)⟩, fun _ => ?_⟩
      (try simp only [List.getElem_toArray]); (try simp only [List.getElem_cons_succ]); (try simp only [List.getElem_cons_zero]); (try simp only [Act.put]); (try simp only [List.setIfInBounds_toArray]); (repeat first | simp only [List.set_cons_succ] | simp only [List.set_cons_zero])
      refine wpAnyH_done (by kernel_rfl) ?_ _
      have hF : PF base w W' p t sv0 sv wb rb (fun k => if k = r.entry then c k + 1 else c k) m := by
        have h := HH.out
        have b1 := h.b1
        have b3 := h.b3
        have kX := (Keeps.refl (fun _ => False) X).drew
        have P1 := h.a.keep kX (fun e => e) (fun e => e) (fun e => e) (fun _ _ e => e)
        refine ⟨⟨P1.cl.keep (by show 0 < 13; decide) kk (fun e => h.a.n2 (Eq.symm e)), kk.owns P1.s (fun b e1 e2 => (h.a.sb b e1).2.2 e2), P1.w.keep kk (fun e => h.a.n3 e), P1.i, ⟨_, ?_, HM'.out⟩, P1.n1, P1.n2, P1.n3, P1.sb, fun k => ?_, P1.ls⟩, ?_, fun b e => (h.bs b e).imp id (fun e => by have := h.eb; omega)⟩
        · have := Hn.out
          split <;> omega
        · have := h.cc k
          split <;> omega
        · exact (h.k.trans' kX (fun _ _ e => e) (fun _ _ e => e.elim)).trans' kk (fun _ _ e => e) (fun b _ e => .inr (.inr (.inl e)))
      go_end0
      exact HR.out _ _ hF
  · have s4 : (r.kind == 4) = false := by simp [hk4]
    have HE : Hid (relC c r = c) := by
      show _ = _
      unfold relC
      rw [if_neg (fun e => hk4 e.1)]
    rw [HE.out] at HR
    clear hk4 h
    go_wp2_with fail
    go_end0
    exact HR.out _ _ hA.fin
theorem ins_len {x : Wo} : ∀ {l : List Wo}, Inc l → (insW x l).length = if (wof l x.object).isSome then l.length else l.length + 1
  | [], _ => rfl
  | y :: l, h => by
    have hy := (List.pairwise_cons.1 h).1
    have hl := (List.pairwise_cons.1 h).2
    unfold insW
    by_cases h1 : y.object = x.object
    · rw [if_pos h1]
      unfold wof
      rw [if_pos h1]
      rfl
    · rw [if_neg h1]
      by_cases h2 : x.object < y.object
      · rw [if_pos h2, wof_none (l := y :: l) (fun z hz => by
          rcases List.mem_cons.1 hz with rfl | hz
          · omega
          · have := hy z hz; omega)]
        rfl
      · rw [if_neg h2]
        unfold wof
        rw [if_neg h1]
        show (insW x l).length + 1 = _
        rw [ins_len hl]
        cases (wof l x.object).isSome <;> rfl
set_option maxHeartbeats 1000000 in
set_option maxRecDepth 100000 in
theorem learn_4 {base B p wb rb m : Nat} {w X : World} {r : Rw} {t : Tv} {sv0 sv : Value} {c : Int → Nat} {R : Ending → World → Prop} {x1 x2 x4 x5 x6 x7 x8 x9 x10 x11 x12 x13 x14 x15 x16 x17 x18 x19 x20 x21 x22 x23 x24 x25 x26 x27 x28 x29 x30 x31 x32 x33 x34 x35 x36 x37 x38 x39 x40 x41 x42 x43 x44 x45 x46 x47 x48 x49 x50 x51 x52 x53 x54 x55 x56 x57 x58 x59 x60 x61 x62 x63 x64 x65 x66 x67 x68 x69 x70 x71 x72 x73 x74 x75 x76 : Value} (h : PL base w X B p r t sv0 sv wb rb c m) (ho : I64 r.object) (he : I64 r.entry) (hm : m ≤ 980000000000) (hlw : t.wrs.length ≤ m) (hR : ∀ X2 sv2, PF base w X2 p (addW t r) sv0 sv2 wb rb (relC c r) m → R (.returned (.tuple #[])) X2) : (lrT4 Try.f42).wp Try.prog (bodyPost Try.prog Try.f42 R) { tmps := #[.pointer (some ⟨p, 0, none⟩), x1, x2, .pointer (some ⟨B, 0, none⟩), x4, x5, x6, x7, x8, x9, x10, x11, x12, x13, x14, x15, x16, x17, x18, x19, x20, x21, x22, x23, x24, x25, x26, x27, x28, x29, x30, x31, x32, x33, x34, x35, x36, x37, x38, x39, x40, x41, x42, x43, x44, x45, x46, x47, x48, x49, x50, x51, x52, x53, x54, x55, x56, x57, x58, x59, x60, x61, x62, x63, x64, x65, x66, x67, x68, x69, x70, x71, x72, x73, x74, x75, x76], defers := [] } X := by
  have r21 := h.ro.c 21 _ rfl
  have HR : Hid _ := hR
  unfold addW at HR
  clear hR
  dsimp only [lrT4, Try.f42]
  refine wp_seq_k (fun KK hKK => ?_)
  have hKH : Hid _ := hKK
  clear hKK
  cases hp : r.puts with
  | false =>
    rw [hp] at r21 HR
    have HH : Hid _ := h
    clear h
    go_wp2_with fail
    refine hKH.out _ _ ?_
    clear hKH KK
    exact learn_5 HH.out he hm (fun X2 sv2 hf => HR.out X2 sv2 hf)
  | true =>
    rw [hp] at r21 HR
    have hMd := h.a.w.keep (Keeps.refl (fun _ => False) X).drew (fun e => e)
    obtain ⟨W', hup, hM', kk⟩ := hMd.put underW ho (wroD r).val (by omega)
    unfold Wo.val wroD at hup
    dsimp only at hup
    have hL : PL base w W' B p r { t with wrs := putD t.wrs (wroD r) } sv0 sv wb rb c m := by
      have kX := (Keeps.refl (fun _ => False) X).drew
      have P1 := h.a.keep kX (fun e => e) (fun e => e) (fun e => e) (fun _ _ e => e)
      have b2 := h.b2
      have ei := putD_ins h.a.i (wroD r)
      refine ⟨(h.ro.keep (by show 0 < 26; decide) kX (fun e => e)).keep (by show 0 < 26; decide) kk (fun e => by have e : B = wb := e; omega), ⟨P1.cl.keep (by show 0 < 13; decide) kk (fun e => h.a.n1 (Eq.symm e)), kk.owns P1.s (fun b e1 e2 => (h.a.sb b e1).2.1 e2), ?_, ?_, ?_, h.a.n1, h.a.n2, h.a.n3, h.a.sb, h.a.cm, h.a.ls.1, ?_⟩, h.cc, ?_, ?_, h.b1, h.b2, h.b3, h.eb, h.bs, h.b0, h.bb, Nat.lt_of_lt_of_le h.lt kk.size⟩
      · show MV W' wb (putD t.wrs (wroD r)).length (wof (putD t.wrs (wroD r)))
        rw [ei, ins_len h.a.i, funext (wof_ins h.a.i)]
        exact hM'
      · show Inc (putD t.wrs (wroD r))
        rw [ei]
        exact h.a.i.ins
      · obtain ⟨n, h1, h2⟩ := P1.r
        exact ⟨n, h1, h2.keep kk (fun e => h.a.n3 (Eq.symm e))⟩
      · show (putD t.wrs (wroD r)).length ≤ m + 1
        have := putD_len t.wrs (wroD r)
        omega
      · obtain ⟨n, h1, h2⟩ := h.cr
        exact ⟨n, h1, (h2.keep kX (fun e => e)).keep kk (fun e => h.a.n3 (Eq.symm e))⟩
      · exact (h.k.trans' kX (fun _ _ e => e) (fun _ _ e => e.elim)).trans' kk (fun _ _ e => e) (fun b _ e => .inr (.inl e))
    have HH : Hid _ := h
    have HL : Hid _ := hL
    clear h hL hMd hM'
    go_wp2_with fail
    refine wp_region_held_drew (S := S2 p B (t.cells sv nilv ++ [.map (some wb), .map (some rb)]) r) (by kernel_rfl) ⟨HH.out.a.cl.drew, HH.out.ro.drew⟩ (fun hHeld => ?_)
    refine wpAnyH_take (i := 0) (v := ?_) rfl (by kernel_rfl) (by kernel_rfl) (by kernel_rfl) (fun _ _ _ h => h) (Or.inl ⟨by rfl, ?_⟩) (by assumption) ?_
    rotate_left
    · intro wx hSw; clear hSw; go_simp <;> with_reducible rfl
    (try simp only [List.getElem_toArray]); (try simp only [List.getElem_cons_succ]); (try simp only [List.getElem_cons_zero]); (try simp only [Act.put]); (try simp only [List.setIfInBounds_toArray]); (repeat first | simp only [List.set_cons_succ] | simp only [List.set_cons_zero])
    refine wpAnyH_take (i := 1) (v := ?_) rfl (by kernel_rfl) (by kernel_rfl) (by kernel_rfl) (fun _ _ _ h => h) (Or.inl ⟨by rfl, ?_⟩) (by assumption) ?_
    rotate_left
    · intro wx hSw; clear hSw; go_simp <;> with_reducible rfl
    (try simp only [List.getElem_toArray]); (try simp only [List.getElem_cons_succ]); (try simp only [List.getElem_cons_zero]); (try simp only [Act.put]); (try simp only [List.setIfInBounds_toArray]); (repeat first | simp only [List.set_cons_succ] | simp only [List.set_cons_zero])
    refine wpAnyH_take (i := 2) (v := ?_) rfl (by kernel_rfl) (by kernel_rfl) (by kernel_rfl) (fun _ _ _ h => h) (Or.inl ⟨by rfl, ?_⟩) (by assumption) ?_
    rotate_left
    · intro wx hSw; clear hSw; go_simp <;> with_reducible rfl
    (try simp only [List.getElem_toArray]); (try simp only [List.getElem_cons_succ]); (try simp only [List.getElem_cons_zero]); (try simp only [Act.put]); (try simp only [List.setIfInBounds_toArray]); (repeat first | simp only [List.set_cons_succ] | simp only [List.set_cons_zero])
    refine wpAnyH_take (i := 3) (v := ?_) rfl (by kernel_rfl) (by kernel_rfl) (by kernel_rfl) (fun _ _ _ h => h) (Or.inl ⟨by rfl, ?_⟩) (by assumption) ?_
    rotate_left
    · intro wx hSw; have p1 := hSw.a.c 11 _ rfl; clear hSw; go_simp <;> with_reducible rfl
    (try simp only [List.getElem_toArray]); (try simp only [List.getElem_cons_succ]); (try simp only [List.getElem_cons_zero]); (try simp only [Act.put]); (try simp only [List.setIfInBounds_toArray]); (repeat first | simp only [List.set_cons_succ] | simp only [List.set_cons_zero])
    refine wpAnyH_take (i := 4) (v := ?_) rfl (by kernel_rfl) (by kernel_rfl) (by kernel_rfl) (fun _ _ _ h => h) (Or.inl ⟨by rfl, ?_⟩) (by assumption) ?_
    rotate_left
    · intro wx hSw; clear hSw; go_simp <;> with_reducible rfl
    (try simp only [List.getElem_toArray]); (try simp only [List.getElem_cons_succ]); (try simp only [List.getElem_cons_zero]); (try simp only [Act.put]); (try simp only [List.setIfInBounds_toArray]); (repeat first | simp only [List.set_cons_succ] | simp only [List.set_cons_zero])
    refine wpAnyH_take (i := 5) (v := ?_) rfl (by kernel_rfl) (by kernel_rfl) (by kernel_rfl) (fun _ _ _ h => h) (Or.inl ⟨by rfl, ?_⟩) (by assumption) ?_
    rotate_left
    · intro wx hSw; have p1 := hSw.r.c 7 _ rfl; clear hSw; go_simp <;> with_reducible rfl
    (try simp only [List.getElem_toArray]); (try simp only [List.getElem_cons_succ]); (try simp only [List.getElem_cons_zero]); (try simp only [Act.put]); (try simp only [List.setIfInBounds_toArray]); (repeat first | simp only [List.set_cons_succ] | simp only [List.set_cons_zero])
    refine wpAnyH_take (i := 6) (v := ?_) rfl (by kernel_rfl) (by kernel_rfl) (by kernel_rfl) (fun _ _ _ h => h) (Or.inl ⟨by rfl, ?_⟩) (by assumption) ?_
    rotate_left
    · intro wx hSw; clear hSw; go_simp <;> with_reducible rfl
    (try simp only [List.getElem_toArray]); (try simp only [List.getElem_cons_succ]); (try simp only [List.getElem_cons_zero]); (try simp only [Act.put]); (try simp only [List.setIfInBounds_toArray]); (repeat first | simp only [List.set_cons_succ] | simp only [List.set_cons_zero])
    refine wpAnyH_take (i := 7) (v := ?_) rfl (by kernel_rfl) (by kernel_rfl) (by kernel_rfl) (fun _ _ _ h => h) (Or.inl ⟨by rfl, ?_⟩) (by assumption) ?_
    rotate_left
    · intro wx hSw; have p1 := hSw.r.c 22 _ rfl; have p2 := hSw.r.c 23 _ rfl; have p3 := hSw.r.c 24 _ rfl; clear hSw; go_simp <;> with_reducible rfl
    (try simp only [List.getElem_toArray]); (try simp only [List.getElem_cons_succ]); (try simp only [List.getElem_cons_zero]); (try simp only [Act.put]); (try simp only [List.setIfInBounds_toArray]); (repeat first | simp only [List.set_cons_succ] | simp only [List.set_cons_zero])
    refine wpAnyH_one 8 (by kernel_rfl) rfl rfl ?_
    go_simp
    refine ⟨⟨hHeld.a.keep (by show 0 < 13; decide) kk (fun e => HH.out.a.n1 (Eq.symm e)), hHeld.r.keep (by show 0 < 26; decide) kk (fun e => by have e : B = wb := e; have := HH.out.b2; omega)⟩, fun _ => ?_⟩
    (try simp only [List.getElem_toArray]); (try simp only [List.getElem_cons_succ]); (try simp only [List.getElem_cons_zero]); (try simp only [Act.put]); (try simp only [List.setIfInBounds_toArray]); (repeat first | simp only [List.set_cons_succ] | simp only [List.set_cons_zero])
    refine wpAnyH_done (by kernel_rfl) ?_ _
    refine hKH.out _ _ ?_
    clear hKH KK
    exact learn_5 HL.out he hm (fun X2 sv2 hf => HR.out X2 sv2 hf)
end Go.Proofs.Ytmnmphkkcabkiaa

