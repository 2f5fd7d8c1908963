import Derived.Test.YtehblpbefkopbaaDoorXaN
namespace Go.Proofs.YtehblpbefkopbaaDoor
open Go.RowKit Go.ChangeShapes Go.WideShapes Go.ChangeAt Go.Deep
attribute [local go_sem] Oper.semAt_some run_store_nf run_store_f
abbrev zS : List Value := [.int .i64 0, .string { data := #[] }, .int .i64 0, .int .i64 0, .string { data := #[] }, .slice none 0 0, .int .i64 0, .int .i64 0, .string { data := #[] }, .slice none 0 0, .slice none 0 0, .slice none 0 0]
theorem iSt : (Tryd.prog.info? 34).map (·.size) = some 12 := by kernel_rfl
theorem inSt : (Tryd.prog.info? 34).map (fun i => (i.zero, i.size, i.bytes)) = some (some (.agg zS.toArray), 12, 184) := by kernel_rfl
theorem uSt : Tryd.prog.underlying 23 = some (.slice 34) := by kernel_rfl
theorem run_st {W : World} {b : Nat} {L : List Value} (h : CL W b L) (hl : L.length = 12) : (loadVar 34 ⟨b, 0, none⟩).run Tryd.prog W = .ok (.agg L.toArray) W :=
  run_loadVar_mid W b 0 34 L _ (fun j v e => by have := h.c j v e; rwa [Nat.zero_add]) Tryd.underlying34 rfl (by rw [iSt, hl])
theorem cl_whole {W : World} {b : Nat} {L : List Value} (h : CL W b (sets zS 0 L.toArray.toList)) (hl : L.length = 12) : CL W b L := by
  have e : sets zS 0 L.toArray.toList = L := by
    unfold sets
    simp [hl]
  rwa [e] at h
theorem one12 {a k1 n1 k2 n2 : Int} {s s1 s2 : ByteArray} {p1 p2 p3 p4 : Option Addr} {m1 c1 m2 c2 m3 c3 m4 c4 : Nat} : ([.int .i64 a, .string s, .int .i64 k1, .int .i64 n1, .string s1, .slice p1 m1 c1, .int .i64 k2, .int .i64 n2, .string s2, .slice p2 m2 c2, .slice p3 m3 c3, .slice p4 m4 c4] : List Value).toArray.all (·.oneCell') = true := all_oneCell_toArray (by simp [Value.oneCell'])
/-- Each of them takes one cell. -/
def One (L : List Value) : Prop := L.toArray.all (·.oneCell') = true
theorem ownP_nil (w : World) (P : Nat → Prop) (e : TypeId) (s : Nat) : OwnP w P e s (.slice none 0 0) 0 [] := ⟨⟨by simp, .inl ⟨rfl, rfl⟩⟩, fun g hg => by cases hg⟩
theorem SL.nil (w : World) (P : Nat → Prop) (e s : TypeId) : SL w P e s [] [] := by unfold SL; rfl
/-- A statement of its parts. -/
theorem SC.mk {w : World} {P : Nat → Prop} {e s : TypeId} {k : Int} {wd : Bs} {a b : Tr} {th el : List St} {la lb xs ys : List Value} {tv ev : Value} (hk : I64 k) (hw : wd.length ≤ 140737488355328) (h1 : TC w P e a la) (h2 : TC w P e b lb) (h3 : OwnP w P s 12 tv th.length xs) (h4 : SL w P e s th xs) (h5 : OwnP w P s 12 ev el.length ys) (h6 : SL w P e s el ys) :
    SC w P e s (.mk k wd a b th el) (.int .i64 k :: .string (bs wd) :: (la ++ (lb ++ [tv, ev]))) := by
  unfold SC
  exact ⟨hk, hw, la, lb, tv, ev, xs, ys, rfl, h1, h2, h3, h4, h5, h6⟩
theorem SC.flat {w : World} {P : Nat → Prop} {e s : TypeId} {k : Int} {wd : Bs} {a b : Tr} {ka na kb nb : Int} {sa sb : ByteArray} {pa pb : Option Addr} {ma ca mb cb : Nat} (hk : I64 k) (hw : wd.length ≤ 140737488355328) (h1 : TC w P e a [.int .i64 ka, .int .i64 na, .string sa, .slice pa ma ca]) (h2 : TC w P e b [.int .i64 kb, .int .i64 nb, .string sb, .slice pb mb cb]) :
    SC w P e s (.mk k wd a b [] []) [.int .i64 k, .string (bs wd), .int .i64 ka, .int .i64 na, .string sa, .slice pa ma ca, .int .i64 kb, .int .i64 nb, .string sb, .slice pb mb cb, .slice none 0 0, .slice none 0 0] :=
  SC.mk hk hw h1 h2 (ownP_nil _ _ _ _) (SL.nil _ _ _ _) (ownP_nil _ _ _ _) (SL.nil _ _ _ _)
theorem wp_call1c (f : Nat) {o : Oper} {a : Act} {w : World} {K : Act → World → Prop} {Q : Exit → Act → World → Prop} (x : Tmp) {t1 t2 : TypeId} {v2 : Value} (ho : o.op = .call { callee := .value (.func f), args := #[.tmp x, .const v2], argTypes := #[t1, t2] }) (v1 : Value) (hx : a.tmps[x]?.getD undef = v1) (hcf : ∀ args w, (callFunc f args).run Tryd.prog w = .ok (.enter f args) w) (h : Calls Tryd.prog f #[v1, v2] w (fun e w' => ∃ v, e = .returned v ∧ K (a.put o.dst v) w')) : o.wp Tryd.prog a w K Q := by
  unfold Oper.wp execOp
  simp only [ho]
  go_simp
  refine h.mono ?_
  rintro e w' ⟨v, rfl, h⟩
  exact h
theorem wp_call1cP (f : Nat) {o : Oper} {a : Act} {w : World} {K : Act → World → Prop} {Q : Exit → Act → World → Prop} (x : Tmp) {t1 t2 : TypeId} {v2 : Value} (ho : o.op = .call { callee := .value (.func f), args := #[.tmp x, .const v2], argTypes := #[t1, t2] }) (v1 : Value) (hx : a.tmps[x]?.getD undef = v1) (hcf : ∀ args w, (callFunc f args).run Tryd.prog w = .ok (.enter f args) w) (h : Calls Tryd.prog f #[v1, v2] w (fun e w' => ∃ c, e = .panicked c ∧ Q (.panic c) a w')) : o.wp Tryd.prog a w K Q := by
  unfold Oper.wp execOp
  simp only [ho]
  go_simp
  refine h.mono ?_
  rintro e w' ⟨v, rfl, h⟩
  exact h
end Go.Proofs.YtehblpbefkopbaaDoor
