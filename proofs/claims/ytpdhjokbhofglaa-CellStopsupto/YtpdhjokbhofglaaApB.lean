import Derived.Test.YtpdhjokbhofglaaApA
namespace Go.Proofs.Ytpdhjokbhofglaa
open Go.RowKit

/-- A list that was kept, and its marks. -/
structure En where
  ka : Option Addr
  kc : Nat
  ma : Option Addr
  mc : Nat
  L : List Rw
def En.k (e : En) : Value := .slice e.ka e.L.length e.kc
def En.m (e : En) : Value := .slice e.ma e.L.length e.mc
def EB (ents : List En) (g : Nat) : Prop := ∃ (j : Nat) (e : En), ents[j]? = some e ∧ (e.ka = some ⟨g, 0, none⟩ ∨ e.ma = some ⟨g, 0, none⟩)
def RK (vk vm : Value) (ents : List En) (g : Nat) : Prop := vk.ownBlock = some g ∨ vm.ownBlock = some g ∨ EB ents g
structure AS (w W : World) (vk vm : Value) (ents : List En) (mb : Nat) (s : Mm) : Prop where
  mp : MP w (RK vk vm ents) W mb s
  rk : W.ownsRow 0 32 1 vk ents.length (ents.map En.k)
  rm : W.ownsRow 0 32 1 vm ents.length (ents.map En.m)
  ea : ∀ (j : Nat) (e : En), ents[j]? = some e → RowsAt W e.ka e.L ∧ RowsAt W e.ma e.L
  e1 : ∀ g, EB ents g → ¬ vk.ownBlock = some g ∧ ¬ vm.ownBlock = some g
  e2 : ∀ g, vk.ownBlock = some g → ¬ vm.ownBlock = some g
  lo : ∀ g, RK vk vm ents g → w.heap.size ≤ g
  el : ∀ (j : Nat) (e : En), ents[j]? = some e → e.L.length ≤ 1000
section
variable {w W W' : World} {vk vm : Value} {ents : List En} {mb : Nat} {s s' : Mm}
theorem AS.mem (h : AS w W vk vm ents mb s) (hm : MP w (RK vk vm ents) W' mb s') (k : KP w (RK vk vm ents) W W') : AS w W' vk vm ents mb s' :=
  ⟨hm, Keeps.owns k h.rk (fun _ e x => x.2 (.inl e)), Keeps.owns k h.rm (fun _ e x => x.2 (.inr (.inl e))), fun j e he => ⟨(h.ea j e he).1.keeps k (fun _ e' x => x.2 (.inr (.inr ⟨j, e, he, .inl e'⟩))), (h.ea j e he).2.keeps k (fun _ e' x => x.2 (.inr (.inr ⟨j, e, he, .inr e'⟩)))⟩, h.e1, h.e2, h.lo, h.el⟩
theorem AS.new (h : AS w W vk vm ents mb s) (k : Keeps (fun _ => False) W W') : AS w W' vk vm ents mb s := h.mem (h.mp.new k) (KP.new k)
theorem AS.ltE (h : AS w W vk vm ents mb s) {g : Nat} (hg : RK vk vm ents g) : g < W.heap.size := h.mp.lt hg
/-- Two more lists. -/
theorem AS.grow (h : AS w W vk vm ents mb s) {vk' vm' : Value} {x y : En} (k : Keeps (fun g => vk.ownBlock = some g ∨ vm.ownBlock = some g) W W')
    (rk : W'.ownsRow 0 32 1 vk' (ents.length + 2) (ents.map En.k ++ [x.k, y.k])) (rm : W'.ownsRow 0 32 1 vm' (ents.length + 2) (ents.map En.m ++ [x.m, y.m]))
    (hx : RowsAt W' x.ka x.L ∧ RowsAt W' x.ma x.L) (hy : RowsAt W' y.ka y.L ∧ RowsAt W' y.ma y.L)
    (hxl : x.L.length ≤ 1000) (hyl : y.L.length ≤ 1000) (hkb : ∀ g, vk'.ownBlock = some g → vk.ownBlock = some g ∨ W.heap.size ≤ g) (hmb : ∀ g, vm'.ownBlock = some g → vm.ownBlock = some g ∨ W.heap.size ≤ g)
    (hn : ∀ g, EB [x, y] g → (W.heap.size ≤ g ∧ g < W'.heap.size) ∧ ¬ vk'.ownBlock = some g ∧ ¬ vm'.ownBlock = some g) (hd : ∀ g, vk'.ownBlock = some g → ¬ vm'.ownBlock = some g) :
    AS w W' vk' vm' (ents ++ [x, y]) mb s := by
  have hsz := h.mp.keeps.size
  have hget : ∀ (j : Nat) (e : En), (ents ++ [x, y])[j]? = some e → ents[j]? = some e ∨ (∃ i : Nat, [x, y][i]? = some e) := fun j e he => by
    by_cases hj : j < ents.length
    · rw [List.getElem?_append_left hj] at he; exact .inl he
    · rw [List.getElem?_append_right (by omega)] at he; exact .inr ⟨_, he⟩
  have heb : ∀ g, EB (ents ++ [x, y]) g → EB ents g ∨ EB [x, y] g := fun g hg => by
    obtain ⟨j, e, he, hg⟩ := hg
    rcases hget j e he with h1 | ⟨i, h1⟩
    · exact .inl ⟨j, e, h1, hg⟩
    · exact .inr ⟨i, e, h1, hg⟩
  have hold : ∀ g, EB ents g → ¬ vk'.ownBlock = some g ∧ ¬ vm'.ownBlock = some g := fun g hg => by
    have h1 := h.e1 g hg
    have h2 := h.ltE (.inr (.inr hg))
    refine ⟨fun e => ?_, fun e => ?_⟩
    · rcases hkb g e with x | x
      · exact h1.1 x
      · omega
    · rcases hmb g e with x | x
      · exact h1.2 x
      · omega
  have hR : ∀ g, RK vk' vm' (ents ++ [x, y]) g → (RK vk vm ents g ∨ W.heap.size ≤ g) ∧ g < W'.heap.size := fun g hg => by
    rcases hg with e | e | e
    · refine ⟨?_, owns_lt' rk g e⟩
      rcases hkb g e with x | x
      · exact .inl (.inl x)
      · exact .inr x
    · refine ⟨?_, owns_lt' rm g e⟩
      rcases hmb g e with x | x
      · exact .inl (.inr (.inl x))
      · exact .inr x
    · rcases heb g e with x | x
      · exact ⟨.inl (.inr (.inr x)), Nat.lt_of_lt_of_le (h.ltE (.inr (.inr x))) k.size⟩
      · exact ⟨.inr (hn g x).1.1, (hn g x).1.2⟩
  refine ⟨h.mp.own (k.mono (fun i hi e => ?_)) hR, ?_, ?_, fun j e he => ?_, fun g hg => ?_, hd, fun g hg => ?_, fun j e he => ?_⟩
  · have : RK vk vm ents i := by
      rcases e with e | e
      · exact .inl e
      · exact .inr (.inl e)
    exact ⟨h.lo i this, this⟩
  · rw [List.length_append, List.map_append]; exact rk
  · rw [List.length_append, List.map_append]; exact rm
  · rcases hget j e he with h1 | ⟨i, h1⟩
    · have hne : ∀ g, EB ents g → ¬ (vk.ownBlock = some g ∨ vm.ownBlock = some g) := fun g hg e => by
        have := h.e1 g hg
        rcases e with e | e
        · exact this.1 e
        · exact this.2 e
      exact ⟨(h.ea j e h1).1.keeps k (fun g e' => hne g ⟨j, e, h1, .inl e'⟩), (h.ea j e h1).2.keeps k (fun g e' => hne g ⟨j, e, h1, .inr e'⟩)⟩
    · match i, h1 with
      | 0, h1 => simp at h1; subst h1; exact hx
      | 1, h1 => simp at h1; subst h1; exact hy
      | i + 2, h1 => simp at h1
  · rcases heb g hg with x | x
    · exact hold g x
    · exact (hn g x).2
  · rcases (hR g hg).1 with x | x
    · exact h.lo g x
    · omega
  · rcases hget j e he with h1 | ⟨i, h1⟩
    · exact h.el j e h1
    · match i, h1 with
      | 0, h1 => simp at h1; subst h1; exact hxl
      | 1, h1 => simp at h1; subst h1; exact hyl
      | i + 2, h1 => simp at h1
end
theorem MP.weak {w W : World} {R R' : Nat → Prop} {mb : Nat} {s : Mm} (h : MP w R W mb s) (hR : ∀ g, R' g → R g) : MP w R' W mb s :=
  h.own (Keeps.refl _ _) (fun g hg => ⟨.inl (hR g hg), h.lt (hR g hg)⟩)
theorem KP.weak {w W W' : World} {R R' : Nat → Prop} (h : KP w R W W') (hR : ∀ g, R' g → R g) : KP w R' W W' := Keeps.mono h (fun g _ e => ⟨e.1, fun x => e.2 (hR g x)⟩)
/-- The act's own block is looked after, too. -/
def RA (vk vm : Value) (ents : List En) (A : Nat) (g : Nat) : Prop := RK vk vm ents g ∨ g = A
theorem AS.act {w W : World} {vk vm : Value} {ents : List En} {mb : Nat} {s : Mm} (h : AS w W vk vm ents mb s) (o : Obj) : MP w (RA vk vm ents W.heap.size) (W.alloc o) mb s :=
  h.mp.own ((Keeps.refl _ W).alloc o) (fun g hg => by
    rcases hg with x | x
    · exact ⟨.inl x, by have := h.ltE x; simp; omega⟩
    · exact ⟨.inr (by omega), by simp; omega⟩)
theorem num_of (W : World) (a : Int) : Calls Try.prog 5 #[.int .i64 a] W fun e w' => e = .returned (.int .i64 a) ∧ W = w' := (num_any W a).mono fun _ _ x => ⟨x.1, x.2.symm⟩
theorem place_of (W : World) (q : Ac) : Calls Try.prog 16 #[.agg #[.int .i64 q.kind, .int .i64 q.c, .int .i64 q.x, .int .i64 q.y]] W fun e w' => e = .returned (.int .i64 (pl q.c : Int)) ∧ Keeps (fun _ => False) W w' :=
  (place_any W q).mono (by rintro e w' ⟨rfl, rfl⟩; exact ⟨rfl, (Keeps.refl _ W).alloc _⟩)
/-- Behind Begin and the access. -/
theorem AS.asked {w W : World} {o : Obj} {w2 w3 : World} {vk vm : Value} {ents : List En} {mb : Nat} {s s' : Mm} (h : AS w W vk vm ents mb s) (k2 : KP w (RA vk vm ents W.heap.size) (W.alloc o) w2) (k3 : KP w (RA vk vm ents W.heap.size) w2 w3) (hm : MP w (RA vk vm ents W.heap.size) w3 mb s') : AS w w3 vk vm ents mb s' :=
  (h.new ((Keeps.refl _ W).alloc o)).mem (hm.weak (fun _ x => .inl x)) ((k2.trans k3).weak (fun _ x => .inl x))
theorem slInfo : (Try.prog.info? 32).map (fun i => (i.zero, i.size, i.bytes)) = some (some (.slice none 0 0), 1, 24) := by kernel_rfl
theorem AS.start {w W : World} {mb : Nat} {s : Mm} (h : MN w W mb s) : AS w W (.slice none 0 0) (.slice none 0 0) [] mb s := by
  have hno : ∀ g, ¬ EB [] g := fun g ⟨j, e, he, _⟩ => by simp at he
  have hR : ∀ g, ¬ RK (.slice none 0 0) (.slice none 0 0) [] g := fun g hg => by
    rcases hg with e | e | e
    · cases e
    · cases e
    · exact hno g e
  refine ⟨?_, World.ownsRow_nil _ _ _ _, World.ownsRow_nil _ _ _ _, (fun j e he => by simp at he), fun g hg => absurd hg (hno g), (fun g e => by cases e), fun g hg => absurd hg (hR g), (fun j e he => by simp at he)⟩
  exact (MP.ofMN h).own (Keeps.refl _ _) (fun g hg => absurd hg (hR g))
end Go.Proofs.Ytpdhjokbhofglaa
