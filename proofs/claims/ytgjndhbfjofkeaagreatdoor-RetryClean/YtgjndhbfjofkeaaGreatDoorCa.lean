import Derived.Test.YtgjndhbfjofkeaaGreatDoorG05
import Derived.Test.YtgjndhbfjofkeaaGreatDoorG24
import Derived.Test.YtgjndhbfjofkeaaGreatDoorG34
namespace Go.Proofs.YtgjndhbfjofkeaaGreatDoor
namespace TB
section
open Go.RowKit
attribute [local go_sem] Oper.semAt_some
variable {w w' : World} {T : Tk} {rs : List Rd}
set_option maxHeartbeats 1600000 in
set_option maxRecDepth 1000000 in
theorem len_any {w : World} {T : Tk} {rs : List Rd} (h : TV w T rs) : Calls Tryz.prog 66 #[.pointer (some ⟨T.tb, 11, none⟩)] w fun e w' => e = .returned (.int .i64 ((es rs).length : Int)) ∧ w' = w := by
  obtain ⟨a, cap, hv, _⟩ := h.eform
  have f0 := h.f0
  rw [hv] at f0
  clear h hv
  go_enter Tryz.func66, Tryz.ntmps66
  go_wp2
  go_ret
  exact ⟨rfl, rfl⟩

end
end TB
section
open Go.RowKit
attribute [local go_sem] Oper.semAt_some run_store_nf run_store_f
variable {w w' : World} {ρ ρ' ρ'' : Nat → Nat} {u j : Nat} {c : Sc} {ab rb n n' : Nat} {x x' : Tx} {f f' : Int → Option Nat} {s s' : Ws} {m m' : Mm} {r r' : Ro}
set_option maxHeartbeats 800000 in
set_option maxRecDepth 1000000 in
theorem reads_any (h : AX w ρ u j c ab x n f s m) : Calls Tryz.prog 43 #[.pointer (some ⟨ab, 0, none⟩)] w fun e w' => e = .returned (.int .i64 ((es c.rs).length : Int)) ∧ w' = w := by
  have hl := TB.len_any h.ct.tv
  have hp : ∀ w : World, (binOp .eql 86 (.pointer (some ⟨ab, 0, none⟩)) (.pointer none)).run Tryz.prog w = .ok (.bool false) w := fun _ => rfl
  go_enter Tryz.func43, Tryz.ntmps43
  go_wp2_with fail
  refine hl.mono ?_
  rintro e w1 ⟨rfl, rfl⟩
  go_wp2_with fail
  go_ret
  exact ⟨rfl, rfl⟩
end
open Go.RowKit
attribute [local go_sem] Oper.semAt_some run_store_nf run_store_f
/-- Four lists of eight marks. -/
def owc (g : Nat → Int → Option Nat) : List Value :=
  [.bool (g 0 0).isSome, .bool (g 0 1).isSome, .bool (g 0 2).isSome, .bool (g 0 3).isSome, .bool (g 0 4).isSome, .bool (g 0 5).isSome, .bool (g 0 6).isSome, .bool (g 0 7).isSome,
   .bool (g 1 0).isSome, .bool (g 1 1).isSome, .bool (g 1 2).isSome, .bool (g 1 3).isSome, .bool (g 1 4).isSome, .bool (g 1 5).isSome, .bool (g 1 6).isSome, .bool (g 1 7).isSome,
   .bool (g 2 0).isSome, .bool (g 2 1).isSome, .bool (g 2 2).isSome, .bool (g 2 3).isSome, .bool (g 2 4).isSome, .bool (g 2 5).isSome, .bool (g 2 6).isSome, .bool (g 2 7).isSome,
   .bool (g 3 0).isSome, .bool (g 3 1).isSome, .bool (g 3 2).isSome, .bool (g 3 3).isSome, .bool (g 3 4).isSome, .bool (g 3 5).isSome, .bool (g 3 6).isSome, .bool (g 3 7).isSome]
theorem owc_get {g : Nat → Int → Option Nat} {i o : Nat} (hi : i < 4) (ho : o < 8) : (owc g)[i * 8 + o]? = some (.bool (g i (o : Int)).isSome) := by
  rcases (by omega : i = 0 ∨ i = 1 ∨ i = 2 ∨ i = 3) with rfl | rfl | rfl | rfl <;> rcases (by omega : o = 0 ∨ o = 1 ∨ o = 2 ∨ o = 3 ∨ o = 4 ∨ o = 5 ∨ o = 6 ∨ o = 7) with rfl | rfl | rfl | rfl | rfl | rfl | rfl | rfl <;> rfl
theorem owc_reset {g : Nat → Int → Option Nat} {i : Nat} (hi : i < 4) : sets (owc g) (i * 8) [.bool false, .bool false, .bool false, .bool false, .bool false, .bool false, .bool false, .bool false] = owc (fun k => if k = i then (fun _ => none) else g k) := by
  rcases (by omega : i = 0 ∨ i = 1 ∨ i = 2 ∨ i = 3) with rfl | rfl | rfl | rfl <;> rfl
theorem owc_set {g : Nat → Int → Option Nat} {i o l : Nat} (hi : i < 4) (ho : o < 8) : (owc g).set (i * 8 + o) (.bool true) = owc (fun k => if k = i then upd (g i) (o : Int) (some l) else g k) := by
  rcases (by omega : i = 0 ∨ i = 1 ∨ i = 2 ∨ i = 3) with rfl | rfl | rfl | rfl <;> rcases (by omega : o = 0 ∨ o = 1 ∨ o = 2 ∨ o = 3 ∨ o = 4 ∨ o = 5 ∨ o = 6 ∨ o = 7) with rfl | rfl | rfl | rfl | rfl | rfl | rfl | rfl <;> simp [owc, upd]
/-- Of four places. -/
def ow4 (P : Nat → Pt) : List Value := owc (fun k => (P k).f)
theorem ow4_fun {P : Nat → Pt} {p' : Pt} {i : Nat} : ow4 (fun k => if k = i then p' else P k) = owc (fun k => if k = i then p'.f else (P k).f) := by
  unfold ow4
  congr 1
  funext k
  by_cases e : k = i <;> simp [e]
theorem ow4_reset {P : Nat → Pt} {p' : Pt} {i : Nat} (hi : i < 4) (h : p'.f = fun _ => none) : sets (ow4 P) (i * 8) [.bool false, .bool false, .bool false, .bool false, .bool false, .bool false, .bool false, .bool false] = ow4 (fun k => if k = i then p' else P k) := by
  rw [ow4_fun, h]; exact owc_reset hi
theorem ow4_set {P : Nat → Pt} {p' : Pt} {i o l : Nat} (hi : i < 4) (ho : o < 8) (h : p'.f = upd (P i).f (o : Int) (some l)) : (ow4 P).set (i * 8 + o) (.bool true) = ow4 (fun k => if k = i then p' else P k) := by
  rw [ow4_fun, h]; exact owc_set hi ho
theorem ow4_same {P : Nat → Pt} {p' : Pt} {i : Nat} (h : p'.f = (P i).f) : ow4 P = ow4 (fun k => if k = i then p' else P k) := by
  rw [ow4_fun, h]
  unfold ow4
  congr 1
  funext k
  by_cases e : k = i <;> simp [e]
/-- What a move does to what is owned. -/
theorem clean_mo {kd t i : Nat} {st : Int} {p p' : Pt} {s s' : Ws} {m m' : Mm} {r : Ro} {b : Bool} (h : MO kd t i st p p' s m r b s' m') :
    (b = true ∧ (r.kind = 1 ∨ r.kind = 2) ∧ r.no = (s.atts.length : Int) ∧ p'.x.no = s.atts.length ∧ (p'.f = fun _ => none) ∧ p'.c.rs = [] ∧ p'.T.state p'.x = 1 ∧ s'.atts.length = s.atts.length + 1) ∨
    (b = true ∧ (r.kind ≠ 1 ∧ r.kind ≠ 2) ∧ r.kind = 13 ∧ r.done = true ∧ s'.atts.length = s.atts.length ∧ ∃ o l : Nat, r.object = (o : Int) ∧ o < s.objs.length ∧ p'.f = upd p.f (o : Int) (some l)) ∨
    ((b = false ∨ (r.kind ≠ 1 ∧ r.kind ≠ 2 ∧ ¬ (r.kind = 13 ∧ r.done = true))) ∧ p'.f = p.f ∧ s'.atts.length = s.atts.length) := by
  cases h with
  | over h hb hr hp hs hm => exact .inr (.inr ⟨.inl hb, by rw [hp], by rw [hs]⟩)
  | ask h ab ha hal hb hr hm sa => exact .inr (.inr ⟨.inl hb, sa.f, sa.ln.2.1⟩)
  | step h hb si =>
    cases si with
    | begin ab c a e hc hp hs hm =>
      subst hp
      refine .inl ⟨hb, .inl (by subst e; rfl), by subst e; rfl, rfl, rfl, hc, ?_, by rw [hs]; simp [Ws.beg]⟩
      show (if p.T.oc = 0 then _ else _) = (1 : Int)
      rw [if_pos h]; rfl
    | again ab0 ab q c a d hq' e hc hp hs hm =>
      subst hp
      refine .inl ⟨hb, .inr (by subst e; rfl), by subst e; rfl, rfl, rfl, hc, ?_, by rw [hs]; simp [Ws.beg]⟩
      show (if p.T.oc = 0 then _ else _) = (1 : Int)
      rw [if_pos h]; rfl
    | go ab r0 a al e hT sp po =>
      subst e
      rcases po.sr.ow with ⟨k, d, o, l, e1, e2, e3⟩ | ⟨k, e3⟩
      · exact .inr (.inl ⟨hb, po.sr.k12, k, d, po.ln.2.2.2.2.2, o, l, e1, e2, by rw [e3, e1]⟩)
      · exact .inr (.inr ⟨.inr ⟨po.sr.k12.1, po.sr.k12.2, k⟩, e3, po.ln.2.2.2.2.2⟩)
section
variable {w w' : World} {ρ lb : Nat → Nat} {u j ab tb mb wb gb db : Nat} {T : Tr} {B : Bk} {nd kr kd t i n : Nat} {xs : Nat → Int} {p : Int} {P : Nat → Pt} {s : Ws} {m : Mm} {x : Tx} {c : Sc} {f : Int → Option Nat}
set_option maxHeartbeats 1600000 in
set_option maxRecDepth 1000000 in
theorem t_reads (h : CL w tb (T.cells mb wb gb db)) (ha : T.a = some ab) (hx : AX w ρ u j c ab x n f s m) : Calls Tryz.prog 22 #[.pointer (some ⟨tb, 0, none⟩)] w fun e w' => e = .returned (.int .i64 ((es c.rs).length : Int)) ∧ w' = w := by
  have hi := t_present h
  rw [ha] at hi
  have hs := reads_any hx
  simp only [apv] at hi
  clear h ha hx
  go_enter Tryz.func22, Tryz.ntmps22
  go_wp2_with (first | (go_at_call 36; refine (hi).mono ?_; rintro e w1 ⟨rfl, rfl⟩) | (go_at_call 43; refine (hs).mono ?_; rintro e w1 ⟨rfl, rfl⟩))
  go_ret
  exact ⟨rfl, rfl⟩
end
end Go.Proofs.YtgjndhbfjofkeaaGreatDoor
