import Derived.Test.YtanmpioplckgbaaDoorRoundFacts
namespace Go.Proofs.YtanmpioplckgbaaDoor
open Go.ChangeShapes Go.WideShapes Go.ChangeAt Go.RowKit

theorem var_keeps {P : Program} {w w' : World} {n : String} {cs : Array Value} (hb : Below w.heap.size w w') (h : w.var? P n = some cs) : w'.var? P n = some cs := by
  cases hg : P.globalNamed n with
  | none => simp [World.var?, hg] at h
  | some g =>
    by_cases hlt : g < w.heap.size
    · exact var?_below hb hg hlt h
    · have : w.heap[g]? = none := by simp; omega
      simp [World.var?, hg, this] at h
/-- What the laid variables hold. -/
def Env (w : World) : Prop := Lib.TabIs Tryd.prog w "internal/strconv.uint64pow10" .u64 Lib.pow10Tab ∧ ErrIs w
theorem Env.step {w w' : World} (h : Env w) (hb : Below w.heap.size w w') : Env w' :=
  ⟨var_keeps hb h.1, by obtain ⟨tp, p, hv⟩ := h.2; exact ⟨tp, p, var_keeps hb hv⟩⟩

theorem format_T (n : Int) (hn : In64 n) (w : World) (he : Env w) :
    Calls Tryd.prog 24 #[.int .i64 n] w fun e w' => ∃ T : ByteArray, e = .returned (.string T) ∧ T.toList = Lib.itoa n ∧ T.size ≤ 20 ∧ 1 ≤ T.size ∧ Below w.heap.size w w' := by
  refine (format_any n hn w he.1).mono ?_
  rintro e w' ⟨rfl, hb⟩
  have e1 : (⟨(Lib.itoa n).toArray⟩ : ByteArray).toList = Lib.itoa n := by rw [list_of]
  obtain ⟨_, _, h1, h2⟩ := round_to n hn
  have e2 := list_len ⟨(Lib.itoa n).toArray⟩
  rw [e1] at e2
  exact ⟨_, rfl, e1, by omega, by omega, hb⟩

theorem one_list (T : ByteArray) : (⟨#[49]⟩ ++ T : ByteArray).toList = 49 :: T.toList := by
  rw [list_of, ByteArray.data_append, Array.toList_append, ← list_of T]; rfl
end Go.Proofs.YtanmpioplckgbaaDoor
