import Derived.Test.YtepolcnplchfbaaNumOpen
import Derived.Test.YtepolcnplchfbaaWdI
import Derived.Maps.AppendAt
import Derived.Deep.AppendSrc
import Derived.Deep.RegionHeld3
import Derived.Laws.ResultCell
namespace Go.Proofs.Ytepolcnplchfbaa
open Go.RowKit Go.Deep Go.ChangeShapes Go.WideShapes Go.ChangeAt

theorem i64Info : (Try.prog.info? 2).map (fun i => (i.zero, i.size, i.bytes)) = some (some (.int .i64 0), 1, 8) := by kernel_rfl
theorem under64s : Try.prog.underlying 25 = some (.slice 2) := by kernel_rfl
/-- An append whose run is known. -/
theorem wpList_append_run {P : Program} {w : World} {ops : Array Oper} {rest : List Oper} {o : Oper} {a : Act} {Q : Exit → Act → World → Prop} (hgd : o.guard = none) (s x : Operand) (t : TypeId)
    (ho : o.op = .call { callee := .builtin .append, args := #[s, x], argTypes := #[t, t] }) (v src v' : Value) (w' : World) (hs : a.eval s = v) (hx : a.eval x = src)
    (hr : (Builtin.append_ #[t, t] o.type #[v, src]).run P w = .ok v' w') (h : wpList P ops Q rest (a.put o.dst v') w') : wpList P ops Q (o :: rest) a w :=
  wpList_plain hgd fun K hK => by
    unfold Oper.wp execOp
    simp only [ho, resolve, invoke, builtin, Sem.run_bind, Sem.run_pure, Result.andThen_ok, List.map_toArray, List.map_cons, List.map_nil, hs, hx, hr]
    exact hK _ _ h

/-- Numbers as cells. -/
def nums (z : Nat → Int) (n : Nat) : List Value := (List.range n).map fun i => .int .i64 (z i)
theorem nums_len (z : Nat → Int) (n : Nat) : (nums z n).length = n := by simp [nums]
theorem nums_get {z : Nat → Int} {n j : Nat} {u : Value} (h : (nums z n)[j]? = some u) : j < n ∧ u = .int .i64 (z j) := by
  have hj : j < n := by have := (List.getElem?_eq_some_iff.1 h).1; simpa [nums] using this
  simp [nums, hj] at h
  exact ⟨hj, h.symm⟩

theorem heap_put {w : World} {b o : Nat} {cs : Array Value} {t : TypeId} (h : w.heap[b]? = some (.cells cs t (0, 0))) (v : Value) : (w.setCell ⟨b, o, none⟩ v).heap[b]? = some (.cells (cs.setIfInBounds o v) t (0, 0)) := by
  have hlt : b < w.heap.size := (Array.getElem?_eq_some_iff.1 h).1
  have hv : w.heap[b] = .cells cs t (0, 0) := (Array.getElem?_eq_some_iff.1 h).2
  simp [World.setCell, hlt, Array.getElem_modify, hv]
theorem frozen_cells {w : World} {b o : Nat} {cs : Array Value} {t : TypeId} (h : w.heap[b]? = some (.cells cs t (0, 0))) : w.frozen? ⟨b, o, none⟩ = false := by
  simp [World.frozen?, h]
theorem cell_cells {w : World} {b o : Nat} {cs : Array Value} {t : TypeId} {v : Value} (h : w.heap[b]? = some (.cells cs t (0, 0))) (hv : cs[o]? = some v) : w.cell? ⟨b, o, none⟩ = some v := by
  simp [World.cell?, h, hv]
/-- An append whose run is known, as a step of a region that draws its order. -/
theorem step_append_run {P : Program} {ops : Array Oper} {o : Oper} {a : Act} {w : World} {K : Act → World → Prop} {Q : Exit → Act → World → Prop} {E : Prop} (hgd : o.guard = none) (s x : Operand) (t : TypeId)
    (ho : o.op = .call { callee := .builtin .append, args := #[s, x], argTypes := #[t, t] }) (v src v' : Value) (w' : World) (hs : a.eval s = v) (hx : a.eval x = src)
    (hr : (Builtin.append_ #[t, t] o.type #[v, src]).run P w = .ok v' w') (h : K (a.put o.dst v') w') : if Region.wanted o (yielded ops a.tmps) = true then Oper.wp P o a w K Q else E := by
  have hw : Region.wanted o (yielded ops a.tmps) = true := by simp [Region.wanted, hgd]
  rw [if_pos hw]
  unfold Oper.wp execOp
  simp only [ho, resolve, invoke, builtin, Sem.run_bind, Sem.run_pure, Result.andThen_ok, List.map_toArray, List.map_cons, List.map_nil, hs, hx, hr]
  exact h
theorem owns_form {w : World} {base e size : Nat} {v : Value} {n : Nat} {xs : List Value} (h : w.ownsRow base e size v n xs) : ∃ a cap, v = .slice a n cap := by
  rcases h.2 with ⟨rfl, rfl⟩ | ⟨g, cap, cur, rfl, _⟩
  · exact ⟨_, _, rfl⟩
  · exact ⟨_, _, rfl⟩
/-- Numbers that were written out. -/
theorem litNl (w : World) (L : List Int) : NL (w.alloc (.cells (L.map (Value.int .i64)).toArray 2)) (some ⟨w.heap.size, 0, none⟩) L.length (fun i => L.getD i 0) := by
  refine .inr ⟨w.heap.size, 0, rfl, by simp, fun i hi => ?_⟩
  rw [Nat.zero_add, cell_of_row _ w.heap.size i _ 2 (0, 0) (heap_alloc_new w _)]
  simp [hi, List.getD_eq_getElem?_getD]
/-- One list behind the other. -/
def catz (z : Nat → Int) (k : Nat) (z' : Nat → Int) (i : Nat) : Int := if i < k then z i else z' (i - k)
theorem numsCat (z : Nat → Int) (k : Nat) (z' : Nat → Int) (m : Nat) : nums z k ++ nums z' m = nums (catz z k z') (k + m) := by
  apply List.ext_getElem
  · simp [nums]
  · intro i h1 h2
    simp [nums] at h1 h2
    by_cases e : i < k
    · rw [List.getElem_append_left (by simpa [nums] using e)]; simp [nums, catz, e]
    · rw [List.getElem_append_right (by simp [nums]; omega)]; simp [nums, catz, e]
theorem appendNl {w : World} {base k : Nat} {v : Value} {z : Nat → Int} (hown : w.ownsRow base 2 1 v k (nums z k)) (hv : v ≠ .slice none 0 0) {a : Option Addr} {m cap : Nat} {z' : Nat → Int} (h : NL w a m z') (hroom : (k + m) * 8 ≤ 140737488355328) (hbase : base ≤ w.heap.size) :
    ∃ v' w', (Builtin.append_ #[25, 25] 25 #[v, .slice a m cap]).run Try.prog w = .ok v' w' ∧ w'.ownsRow base 2 1 v' (k + m) (nums (catz z k z') (k + m)) ∧ Keeps (fun i => v.ownBlock = some i) w w' ∧ v' ≠ .slice none 0 0 := by
  obtain ⟨i0, hi0, hz0, hz1, hz2⟩ := info_parts i64Info
  cases a with
  | none =>
    obtain rfl : m = 0 := by
      rcases h with h | ⟨b, off, e, _⟩
      · exact h
      · cases e
    rcases hown.2 with ⟨rfl, _⟩ | ⟨g, cap', cur, rfl, _, _, hkc, _⟩
    · exact absurd rfl hv
    · have := run_append_room_src (P := Try.prog) w 25 25 25 2 i0 under64s hi0 g 0 k cap' (.slice none 0 cap) 0 [] (by rw [hz1]; exact Src.ofNil w under64s cap) (by omega) (fun j hj => by simp at hj) (fun j hj => by simp at hj)
      refine ⟨_, w, by simpa [World.setCells] using this, ?_, Keeps.refl _ _, hv⟩
      rw [← numsCat]
      simpa [nums] using hown
  | some a =>
    obtain ⟨v', w', hr, ho, hg, hiff, _⟩ := run_append_own_at (P := Try.prog) (w := w) base 25 25 2 i0 _ 1 8 under64s hi0 hz0 hz1 hz2 rfl (by decide) v k (nums z k) hown a m cap (nums z' m) (by rw [nums_len]; omega) (fun j u hu => by
      obtain ⟨hj, rfl⟩ := nums_get hu
      obtain ⟨b, off, e, hb, hc⟩ := h.resolve_left (by omega)
      cases e
      rw [add_none]
      exact hc j hj) (fun u hu => by
      obtain ⟨i, _, rfl⟩ := List.mem_map.1 hu
      rfl) (by unfold maxLen; omega) (by omega) hbase
    rw [numsCat] at ho
    exact ⟨v', w', hr, ho, (Keeps.refl _ w).grown hg (fun i _ e => e), fun e => hv (hiff.1 e).1⟩

theorem ownsBase {w : World} {base : Nat} {e : TypeId} {size : Nat} {v : Value} {n : Nat} {xs : List Value} (h : w.ownsRow base e size v n xs) (k : Nat) (hk : v.ownBlock = some k) : base ≤ k := by
  rcases h.2 with ⟨rfl, _⟩ | ⟨g, cap, cur, rfl, hb, hg, rest⟩
  · cases hk
  · cases hk; exact hb


/-- A step of the script. -/
structure OE where
  k : Int
  who : Int
  n : Int
  pa : Option Addr
  pl : Nat
  pc : Nat
  z : Nat → Int
structure EA (W : World) (b o : Nat) (e : OE) : Prop where
  e0 : W.cell? ⟨b, o, none⟩ = some (.int .i64 e.k)
  e1 : W.cell? ⟨b, o + 1, none⟩ = some (.int .i64 e.who)
  e2 : W.cell? ⟨b, o + 2, none⟩ = some (.int .i64 e.n)
  e3 : W.cell? ⟨b, o + 3, none⟩ = some (.slice e.pa e.pl e.pc)
  nl : NL W e.pa e.pl e.z
/-- The script in memory. -/
def OPL (W : World) (a : Option Addr) (len : Nat) (E : Nat → OE) : Prop := len = 0 ∨ ∃ b off, a = some ⟨b, off, none⟩ ∧ b < W.heap.size ∧ ∀ i, i < len → EA W b (off + i * 4) (E i)
theorem EA.keeps {W W' : World} {b o : Nat} {e : OE} (h : EA W b o e) (k : Keeps (fun _ => False) W W') : EA W' b o e :=
  ⟨k.cell h.e0 (fun e => e), k.cell h.e1 (fun e => e), k.cell h.e2 (fun e => e), k.cell h.e3 (fun e => e), h.nl.new k⟩

theorem chooseLt {α : Type} [Inhabited α] {n : Nat} {p : Nat → α → Prop} (h : ∀ i, i < n → ∃ x, p i x) : ∃ f : Nat → α, ∀ i, i < n → p i (f i) := by
  refine ⟨fun i => if hi : i < n then (h i hi).choose else default, fun i hi => ?_⟩
  simp only [hi, dif_pos]
  exact (h i hi).choose_spec
instance : Inhabited OE := ⟨⟨0, 0, 0, none, 0, 0, fun _ => 0⟩⟩

theorem open_opsP {H : Type} {enc : TypeId × Value → H} {P : Program} {W : World} {t e et : TypeId} {f0 f1 f2 f3 : Field} {fuel : Nat} {a : Option Addr} {len cap : Nat} {x : DataW H × List MemPlace}
    (ht : P.underlying t = some (.slice e)) (hs : P.underlying e = some (.struct #[f0, f1, f2, f3])) (ce : P.cellsOf e = 4) (o0 : f0.offset = 0) (o1 : f1.offset = 1) (o2 : f2.offset = 2) (o3 : f3.offset = 3)
    (c0 : P.cellsOf f0.type = 1) (c1 : P.cellsOf f1.type = 1) (c2 : P.cellsOf f2.type = 1) (c3 : P.cellsOf f3.type = 1) (u0 : P.underlying f0.type = some (.int .i64)) (u1 : P.underlying f1.type = some (.int .i64)) (u2 : P.underlying f2.type = some (.int .i64)) (u3 : P.underlying f3.type = some (.slice et)) (he : P.underlying et = some (.int .i64)) (cet : P.cellsOf et = 1)
    (h : DataW.trod enc P W 0 (fun _ => true) true fuel t [.slice a len cap] = some x) :
    ∃ E : Nat → OE, OPL W a len E ∧ (∀ i, i < len → I64 (E i).who ∧ I64 (E i).n ∧ (E i).pl ≤ Rows.uptoBulk x.1) ∧ (len = 0 ∨ ∃ es ss, x.1 = .slice es ss ∧ len ≤ es.length + ss.length) := by
  by_cases h0 : len = 0
  · subst h0
    exact ⟨fun _ => default, .inl rfl, fun i hi => by omega, .inl rfl⟩
  rcases open_slice ht h with ⟨hcs, _⟩ | ⟨a', len', cap', m, n, D, Pl, hcs, hb, hl, hm, hmm, rfl, hx⟩
  · simp at hcs; omega
  simp at hcs
  obtain ⟨rfl, rfl, rfl⟩ := hcs
  have hlm : len ≤ m := by rw [hmm]; split <;> omega
  have each : ∀ i, i < len → ∃ q : OE, I64 q.who ∧ I64 q.n ∧ q.pl ≤ Rows.uptoBulk (D i) ∧ NL W q.pa q.pl q.z ∧ W.cell? (a'.add (i * 4)) = some (.int .i64 q.k) ∧ W.cell? (a'.add (i * 4 + 1)) = some (.int .i64 q.who) ∧ W.cell? (a'.add (i * 4 + 2)) = some (.int .i64 q.n) ∧ W.cell? (a'.add (i * 4 + 3)) = some (.slice q.pa q.pl q.pc) := by
    intro i hi
    obtain ⟨cs', h1, h2⟩ := hx i (by omega)
    rw [ce] at h1
    obtain ⟨_, hlen, hcell⟩ := World.cells?_some h1
    obtain ⟨xs, k, hk, hxy, _, hxl, hf⟩ := DataW.trod_struct hs h2
    match xs, hxl, cs', hlen with
    | [y0, y1, y2, y3], _, [v0, v1, v2, v3], _ =>
      have g0 := hf 0 f0 rfl
      have g1 := hf 1 f1 rfl
      have g2 := hf 2 f2 rfl
      have g3 := hf 3 f3 rfl
      simp [o0, o1, o2, o3, c0, c1, c2, c3] at g0 g1 g2 g3
      have e0 := hcell 0 (by omega)
      have e1 := hcell 1 (by omega)
      have e2 := hcell 2 (by omega)
      have e3 := hcell 3 (by omega)
      rw [add_add] at e0 e1 e2 e3
      obtain ⟨q0, r0, _, w0⟩ := DataW.trod_int u0 g0
      obtain ⟨q1, r1, _, w1⟩ := DataW.trod_int u1 g1
      obtain ⟨q2, r2, _, w2⟩ := DataW.trod_int u2 g2
      simp at r0 r1 r2
      subst r0 r1 r2
      obtain ⟨pa, pl, pc, rfl⟩ : ∃ a len cap, v3 = .slice a len cap := by
        rcases open_slice u3 g3 with ⟨hc, _⟩ | ⟨a', len', cap', m, n, D, Pl, hc, _⟩
        · simp at hc; exact ⟨_, _, _, hc⟩
        · simp at hc; exact ⟨_, _, _, hc⟩
      obtain ⟨z, hz, _, hsz⟩ := open_nums u3 he cet g3
      have hbk : pl ≤ Rows.uptoBulk (D i) := by
        have e : D i = .agg [y0.1, y1.1, y2.1, y3.1] := by simpa using (congrArg Prod.fst hxy)
        rw [e]
        have h3 := bulk_part (d := y3.1) (l := [y0.1, y1.1, y2.1, y3.1]) (by simp)
        simp only [Rows.uptoBulk]
        rcases hsz with hsz | ⟨es, ss, hy, hle⟩
        · omega
        · have := bulk_slice es ss
          rw [← hy] at this
          omega
      exact ⟨⟨q0, q1, q2, pa, pl, pc, z⟩, i64_of_wf w1, i64_of_wf w2, hbk, hz, by simpa using e0, by simpa using e1, by simpa using e2, by simpa using e3⟩
  obtain ⟨b, off, spot⟩ := a'
  obtain ⟨_, _, _, _, _, z0, _⟩ := each 0 (by omega)
  have hspot : spot = none := by simpa [Addr.add] using World.cell?_spot z0
  subst hspot
  rw [add_none] at z0
  obtain ⟨V, hV⟩ := chooseLt each
  refine ⟨V, .inr ⟨b, off, rfl, World.block_lt_of_cell? _ _ z0, fun i hi => ?_⟩, fun i hi => ?_, .inr ⟨_, _, rfl, by simp⟩⟩
  · obtain ⟨_, _, _, hz, z0, z1, z2, z3⟩ := hV i hi
    exact ⟨by simpa [add_none] using z0, by simpa [add_none, Nat.add_assoc] using z1, by simpa [add_none, Nat.add_assoc] using z2, by simpa [add_none, Nat.add_assoc] using z3, hz⟩
  · obtain ⟨h1, h2, h3, _⟩ := hV i hi
    refine ⟨h1, h2, Nat.le_trans h3 ?_⟩
    have := bulk_part (d := D i) (l := (List.range len).map D) (List.mem_map.2 ⟨i, by simpa using hi, rfl⟩)
    simp only [Rows.uptoBulk]
    omega
theorem size_drew (w : World) : w.drew.heap.size = w.heap.size := rfl
/-- A copy of the picks. -/
theorem pick_app1 {W0 W : World} (k : Keeps (fun _ => False) W0 W) {g0 : Nat} (hg : W.heap[g0]? = some (.cells #[] 2 (0, 0))) (hg0 : W0.heap.size ≤ g0) {pa : Option Addr} {pl : Nat} {z : Nat → Int} (nl : NL W0 pa pl z) (hb : pl ≤ 1048576) (pc : Nat) :
    ∃ v1 W1, (Builtin.append_ #[25, 25] 25 #[.slice (some ⟨g0, 0, none⟩) 0 0, .slice pa pl pc]).run Try.prog W = .ok v1 W1 ∧ W1.ownsRow W0.heap.size 2 1 v1 pl (nums z pl) ∧ v1 ≠ .slice none 0 0 ∧ Keeps (fun _ => False) W0 W1 ∧ Keeps (fun i => i = g0) W W1 := by
  have own : W.ownsRow W0.heap.size 2 1 (.slice (some ⟨g0, 0, none⟩) 0 0) 0 (nums z 0) := ⟨rfl, .inr ⟨g0, 0, #[], rfl, hg0, hg, Nat.le_refl _, by unfold maxLen; omega, rfl, rfl⟩⟩
  obtain ⟨v1, W1, h1, h2, h3, h4⟩ := appendNl (cap := pc) own (by simp) (nl.new k) (by omega) k.size
  have e : nums (catz z 0 z) (0 + pl) = nums z pl := by
    rw [Nat.zero_add]
    have : catz z 0 z = z := by funext i; simp [catz]
    rw [this]
  rw [e, Nat.zero_add] at h2
  exact ⟨v1, W1, h1, h2, h4, k.trans' h3 (fun _ _ e => e) (fun i hi e => by simp [Value.ownBlock] at e; omega), h3.mono (fun i _ e => by simp [Value.ownBlock] at e; exact e.symm)⟩
end Go.Proofs.Ytepolcnplchfbaa
