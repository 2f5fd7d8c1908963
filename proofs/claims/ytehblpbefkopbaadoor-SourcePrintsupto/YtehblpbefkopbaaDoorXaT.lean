import Derived.Test.YtehblpbefkopbaaDoorXaQ
import Derived.Test.YtehblpbefkopbaaDoorXaS
import Derived.Laws.StructEq
import Derived.LaidEqlPtr
namespace Go.Proofs.YtehblpbefkopbaaDoor
open Go.RowKit Go.ChangeShapes Go.WideShapes Go.ChangeAt Go.Deep
attribute [local go_sem] Oper.semAt_some run_store_nf run_store_f
/-- A key of the memos: where a list lies, how long it is. -/
abbrev kyV (b n : Nat) : Value := .agg #[.pointer (some ⟨b, 0, none⟩), .int .i64 (n : Int)]
abbrev vlV (d m : Nat) : Value := .agg #[.int .i64 (d : Int), .int .i64 (m : Int)]
/-- A block that can be pointed to. -/
def Alive (w : World) (b : Nat) : Prop := ∃ ca ta, w.heap[b]? = some (.cells ca ta (0, 0))
theorem ptr_eq {w : World} {tp te : TypeId} {j : TypeInfo} (hp : Tryd.prog.underlying tp = some (.pointer te)) (hte : Tryd.prog.info? te = some j) (hsz : j.size ≠ 0) {b b' : Nat} (h : Alive w b) (h' : Alive w b') (d : Nat) :
    (Op.equalIn (d + 1) tp (.pointer (some ⟨b, 0, none⟩)) (.pointer (some ⟨b', 0, none⟩))).run Tryd.prog w = .ok (b == b') w := by
  obtain ⟨ca, ta, ha⟩ := h
  obtain ⟨cb, tb, hb⟩ := h'
  by_cases e : b = b'
  · subst e
    simp [Op.equalIn, run_underlying hp, sizeOf, typeInfo, hte, run_sameAddr_same]
  · have hne : (⟨b, 0, none⟩ : Addr) ≠ ⟨b', 0, none⟩ := fun q => e (by injection q)
    have := run_sameAddr_other (P := Tryd.prog) w (a := ⟨b, 0, none⟩) (b := ⟨b', 0, none⟩) hne ha hb
    simp [Op.equalIn, run_underlying hp, sizeOf, typeInfo, hte, hsz, this, e]
theorem eq_keyE {w : World} {b n b' n' : Nat} (h : Alive w b) (h' : Alive w b') : (Op.equal 120 (kyV b n) (kyV b' n')).run Tryd.prog w = .ok (b == b' && (n : Int) == (n' : Int)) w := by
  have hP : ∀ d, (Op.equalIn (d + 1) 93 (.pointer (some ⟨b, 0, none⟩)) (.pointer (some ⟨b', 0, none⟩))).run Tryd.prog w = .ok (b == b') w := by
    obtain ⟨j, hj, hz⟩ := Option.map_eq_some_iff.1 iEx
    exact ptr_eq (te := 32) (by kernel_rfl) hj (by omega) h h'
  show (Op.equalIn (9999 + 1) 120 (kyV b n) (kyV b' n')).run Tryd.prog w = _
  rw [run_equalIn_agg w 9999 120 _ _ (by kernel_rfl) (by kernel_rfl)]
  have h1 := hP 9998
  cases hb : (b == b')
  · rw [hb] at h1
    go_simp
  · rw [hb] at h1
    go_simp
    by_cases e : (n : Int) = (n' : Int) <;> simp [e]
theorem eq_keyS {w : World} {b n b' n' : Nat} (h : Alive w b) (h' : Alive w b') : (Op.equal 100 (kyV b n) (kyV b' n')).run Tryd.prog w = .ok (b == b' && (n : Int) == (n' : Int)) w := by
  have hP : ∀ d, (Op.equalIn (d + 1) 76 (.pointer (some ⟨b, 0, none⟩)) (.pointer (some ⟨b', 0, none⟩))).run Tryd.prog w = .ok (b == b') w := by
    obtain ⟨j, hj, hz⟩ := Option.map_eq_some_iff.1 iSt
    exact ptr_eq (te := 34) (by kernel_rfl) hj (by omega) h h'
  show (Op.equalIn (9999 + 1) 100 (kyV b n) (kyV b' n')).run Tryd.prog w = _
  rw [run_equalIn_agg w 9999 100 _ _ (by kernel_rfl) (by kernel_rfl)]
  have h1 := hP 9998
  cases hb : (b == b')
  · rw [hb] at h1
    go_simp
  · rw [hb] at h1
    go_simp
    by_cases e : (n : Int) = (n' : Int) <;> simp [e]
/-- The memo of one sort of lists. -/
structure Memo (kt mt : TypeId) : Prop where
  eq : ∀ {w : World} {b n b' n' : Nat}, Alive w b → Alive w b' → (Op.equal kt (kyV b n) (kyV b' n')).run Tryd.prog w = .ok (b == b' && (n : Int) == (n' : Int)) w
  ck : ∀ (em : Bool) (b n : Nat) (w : World), (Instr.checkKey em 10000 kt (kyV b n)).run Tryd.prog w = .ok () w
  un : ∃ fs, Tryd.prog.underlying kt = some (.struct fs)
  mp : Tryd.prog.underlying mt = some (.map kt 74)
theorem memoE : Memo 120 69 := ⟨eq_keyE, fun em b n w => by kernel_rfl, ⟨_, Tryd.underlying120⟩, by kernel_rfl⟩
theorem memoS : Memo 100 70 := ⟨eq_keyS, fun em b n w => by kernel_rfl, ⟨_, Tryd.underlying100⟩, by kernel_rfl⟩
/-- An entry of a memo: it tells of a list what G says. -/
def Ent (W : World) (G : Nat → Nat → Nat → Nat → Prop) (e : MapEntry) : Prop := ∃ b n d m, e.key = kyV b n ∧ e.val = vlV d m ∧ Alive W b ∧ G b n d m
theorem find_ask {kt mt : TypeId} (M : Memo kt mt) {W : World} {G : Nat → Nat → Nat → Nat → Prop} {b n : Nat} (hb : Alive W b) : ∀ (es : List MapEntry) (i : Nat), (∀ e ∈ es, Ent W G e) →
    (Instr.findAsking kt (kyV b n) es i).run Tryd.prog W = .ok none W ∨ ∃ j d m, (Instr.findAsking kt (kyV b n) es i).run Tryd.prog W = .ok (some (j, vlV d m)) W ∧ i ≤ j ∧ (∃ e, es[j - i]? = some e ∧ e.key = kyV b n) ∧ G b n d m
  | [], i, _ => .inl rfl
  | e :: es, i, h => by
    obtain ⟨b', n', d, m, hk, hv, ha, hg⟩ := h e List.mem_cons_self
    have hq := M.eq (n := n) (n' := n') hb ha
    have step : (Instr.findAsking kt (kyV b n) (e :: es) i).run Tryd.prog W = if (b == b' && (n : Int) == (n' : Int)) then .ok (some (i, e.val)) W else (Instr.findAsking kt (kyV b n) es (i + 1)).run Tryd.prog W := by
      rw [Instr.findAsking, Sem.run_bind, hk, hq]
      simp only [Result.andThen_ok]
      split <;> rfl
    rw [step]
    cases hc : (b == b' && (n : Int) == (n' : Int))
    · rw [if_neg (by decide)]
      rcases find_ask M hb es (i + 1) (fun x hx => h x (List.mem_cons_of_mem _ hx)) with h1 | ⟨j, d, m, h1, h2, ⟨x, h3, h5⟩, h4⟩
      · exact .inl h1
      · refine .inr ⟨j, d, m, h1, by omega, ⟨x, ?_, h5⟩, h4⟩
        rw [show j - i = (j - (i + 1)) + 1 by omega, List.getElem?_cons_succ]; exact h3
    · rw [if_pos rfl]
      have hc2 : b = b' ∧ (n : Int) = (n' : Int) := by simpa using hc
      obtain ⟨rfl, hn⟩ := hc2
      have hn : n = n' := by omega
      subst hn
      exact .inr ⟨i, d, m, by rw [hv], Nat.le_refl _, ⟨e, by rw [Nat.sub_self]; rfl, hk⟩, hg⟩
theorem find_key {kt mt : TypeId} (M : Memo kt mt) {W : World} {G : Nat → Nat → Nat → Nat → Prop} {b n : Nat} (hb : Alive W b) (es : List MapEntry) (h : ∀ e ∈ es, Ent W G e) :
    (Instr.findKey kt (kyV b n) es).run Tryd.prog W = .ok none W ∨ ∃ j d m, (Instr.findKey kt (kyV b n) es).run Tryd.prog W = .ok (some (j, vlV d m)) W ∧ (∃ e, es[j]? = some e ∧ e.key = kyV b n) ∧ G b n d m := by
  obtain ⟨fs, hu⟩ := M.un
  cases es with
  | nil =>
    refine .inl ?_
    simp [Instr.findKey, run_underlying hu, Instr.findNow]
  | cons e es =>
    obtain ⟨b', n', d, m, hk, hv, ha, hg⟩ := h e List.mem_cons_self
    have hs : (Instr.findKey kt (kyV b n) (e :: es)).run Tryd.prog W = (Instr.findAsking kt (kyV b n) (e :: es)).run Tryd.prog W := by
      simp [Instr.findKey, run_underlying hu, Instr.findNow, Instr.sameNow]
    rw [hs]
    rcases find_ask M hb (e :: es) 0 h with h1 | ⟨j, d, m, h1, _, ⟨x, h3, h5⟩, h4⟩
    · exact .inl h1
    · exact .inr ⟨j, d, m, h1, ⟨x, h3, h5⟩, h4⟩
/-- A memo in memory. -/
structure MMap (W : World) (mb : Nat) (G : Nat → Nat → Nat → Nat → Prop) : Prop where
  h : ∃ es clock, W.heap[mb]? = some (.map es clock) ∧ ∀ e ∈ es.toList, Ent W G e
theorem MMap.look {kt mt : TypeId} (M : Memo kt mt) {W : World} {mb : Nat} {G : Nat → Nat → Nat → Nat → Prop} (h : MMap W mb G) {b n : Nat} (hb : Alive W b) :
    ∃ d m ok, (Instr.lookup mt (.map (some mb)) (kyV b n) true).run Tryd.prog W = .ok (.tuple #[vlV d m, .bool ok]) W ∧ (ok = true → G b n d m) := by
  obtain ⟨es, clock, hm, he⟩ := h.h
  have hz : (zeroValue 74).run Tryd.prog W = .ok (vlV 0 0) W := by kernel_rfl
  rcases find_key M (n := n) hb es.toList he with h1 | ⟨j, d, m, h1, _, h4⟩
  · refine ⟨0, 0, false, ?_, fun q => by cases q⟩
    simp only [Instr.lookup, Sem.run_bind, run_underlying M.mp, Result.andThen_ok, MapKept.run_getObj_map hm, M.ck, Sem.run_pure, h1, hz]
    rfl
  · refine ⟨d, m, true, ?_, fun _ => h4⟩
    simp only [Instr.lookup, Sem.run_bind, run_underlying M.mp, Result.andThen_ok, MapKept.run_getObj_map hm, M.ck, Sem.run_pure, h1]
    rfl
theorem Ent.keep {W W' : World} {G G' : Nat → Nat → Nat → Nat → Prop} {e : MapEntry} (h : Ent W G e) (ha : ∀ b, Alive W b → Alive W' b) (hg : ∀ b n d m, G b n d m → G' b n d m) : Ent W' G' e := by
  obtain ⟨b, n, d, m, h1, h2, h3, h4⟩ := h
  exact ⟨b, n, d, m, h1, h2, ha b h3, hg b n d m h4⟩
theorem MMap.put {kt mt : TypeId} (M : Memo kt mt) {W : World} {mb : Nat} {G : Nat → Nat → Nat → Nat → Prop} (h : MMap W mb G) {b n d m : Nat} (hb : Alive W b) (hg : G b n d m) :
    ∃ W', (Instr.mapUpdate mt (.map (some mb)) (kyV b n) (vlV d m)).run Tryd.prog W = .ok () W' ∧ MMap W' mb G ∧ Keeps (fun k => k = mb) W W' ∧ W'.heap.size = W.heap.size := by
  obtain ⟨es, clock, hm, he⟩ := h.h
  have hlt : mb < W.heap.size := (Array.getElem?_eq_some_iff.1 hm).1
  have key : ∀ es' c', (∀ e ∈ es'.toList, Ent W G e) → MMap { W with heap := W.heap.setIfInBounds mb (.map es' c') } mb G ∧ Keeps (fun k => k = mb) W { W with heap := W.heap.setIfInBounds mb (.map es' c') } ∧ ({ W with heap := W.heap.setIfInBounds mb (.map es' c') } : World).heap.size = W.heap.size := by
    intro es' c' h'
    have hk : Keeps (fun k => k = mb) W { W with heap := W.heap.setIfInBounds mb (.map es' c') } := ⟨rfl, rfl, rfl, by simp, fun k hk hS => by
      show (W.heap.setIfInBounds mb _)[k]? = _
      rw [Array.getElem?_setIfInBounds_ne (fun e => hS e.symm)]⟩
    refine ⟨⟨es', c', ?_, fun e hx => (h' e hx).keep (fun b' ⟨ca, ta, q⟩ => ⟨ca, ta, ?_⟩) (fun _ _ _ _ q => q)⟩, hk, by simp⟩
    · show (W.heap.setIfInBounds mb _)[mb]? = _
      rw [Array.getElem?_setIfInBounds_self_of_lt hlt]
    · rw [hk.block b' (Array.getElem?_eq_some_iff.1 q).1 (fun e => by subst e; rw [hm] at q; cases q)]; exact q
  rcases find_key M (n := n) hb es.toList he with h1 | ⟨j, d', m', h1, ⟨x, h3, h5⟩, h4⟩
  · refine ⟨_, ?_, key (es.push { key := kyV b n, val := vlV d m, born := clock }) (clock + 1) (fun e hx => ?_)⟩
    · simp only [Instr.mapUpdate, Sem.run_bind, run_underlying M.mp, Result.andThen_ok, MapKept.run_getObj_map hm, M.ck, h1, MapKept.run_setObj_map _ hm]
    · rw [Array.toList_push] at hx
      rcases List.mem_append.1 hx with hx | hx
      · exact he e hx
      · rw [List.mem_singleton] at hx; subst hx; exact ⟨b, n, d, m, rfl, rfl, hb, hg⟩
  · have h3' : es[j]? = some x := by rw [← Array.getElem?_toList]; exact h3
    have hst : (Instr.keyThatStays (kyV b n) (kyV b n)).run Tryd.prog W = .ok (kyV b n) W := by
      have : Instr.sameBits 10000 (kyV b n) (kyV b n) = true := by simp [Instr.sameBits]
      simp [Instr.keyThatStays, this]
    refine ⟨_, ?_, key (es.modify j fun e => { e with key := kyV b n, val := vlV d m }) clock (fun e hx => ?_)⟩
    · simp only [Instr.mapUpdate, Sem.run_bind, run_underlying M.mp, Result.andThen_ok, MapKept.run_getObj_map hm, M.ck, h1, h3', Option.map_some, Option.getD_some, h5, hst, MapKept.run_setObj_map _ hm]
    · obtain ⟨q, hq, rfl⟩ := List.getElem_of_mem hx
      rw [Array.length_toList, Array.size_modify] at hq
      rw [Array.getElem_toList, Array.getElem_modify]
      split
      · exact ⟨b, n, d, m, rfl, rfl, hb, hg⟩
      · exact he _ (by rw [Array.mem_toList_iff]; exact Array.getElem_mem hq)
end Go.Proofs.YtehblpbefkopbaaDoor
